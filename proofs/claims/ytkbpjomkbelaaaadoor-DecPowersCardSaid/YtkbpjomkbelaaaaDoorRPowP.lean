/- Parts of the contract of the document's Power: above the exponent 0. New memory alone is made. -/
import Derived.Test.YtkbpjomkbelaaaaDoorRPowN
namespace Go.Proofs.YtkbpjomkbelaaaaDoor
open Go.Shelf Go.RowKit
set_option linter.all false
theorem app_drop {w3 w1 : World} {v' : Value} {p : List Nat} {j : Nat} (ho : w1.ownsRow 0 3 1 v' (0 + (p.length - j)) ([] ++ ints (p.drop j))) (hg : w3.grownBy w1 (Value.slice none 0 0).ownBlock) : IsW w1 v' (p.drop j) ∧ Below w3.heap.size w3 w1 := by
  refine ⟨?_, ?_⟩
  · unfold IsW; rw [List.length_drop]; rw [Nat.zero_add] at ho; exact ho
  · exact Below.grown (Below.refl _ _) hg (Nat.le_refl _) (fun k hk => by cases hk)
theorem ints_drop_at {w : World} {bp j : Nat} {p : List Nat} (hc : ∀ i, (hi : i < p.length) → w.cell? ⟨bp, i, none⟩ = some (.int .i64 (p[i] : Nat))) : ∀ (i : Nat) (u : Value), (ints (p.drop j))[i]? = some u → w.cell? ((⟨bp, j, none⟩ : Addr).add i) = some u := by
  intro i u h
  unfold ints at h
  rw [List.getElem?_map, List.getElem?_drop] at h
  by_cases hl : j + i < p.length
  · rw [List.getElem?_eq_getElem hl] at h
    simp at h
    subst h
    have h9 := hc (j + i) hl
    unfold Addr.add
    split
    · rename_i h0; have : i = 0 := by simpa using h0
      subst this; exact h9
    · exact h9
  · rw [List.getElem?_eq_none (by omega)] at h; simp at h
theorem ints_one (l : List Nat) : ∀ u, u ∈ ints l → u.oneCell' = true := by
  intro u hu; unfold ints at hu; simp at hu; obtain ⟨a, _, rfl⟩ := hu; rfl
theorem IsW.cellAt {w : World} {g cap : Nat} {l : List Nat} (h : IsW w (.slice (Option.some ⟨g, 0, none⟩) l.length cap) l) (i : Nat) (hi : i < l.length) : w.cell? ⟨g, i, none⟩ = Option.some (.int .i64 (l[i] : Nat)) := by
  rcases h.lies with ⟨h1, _⟩ | ⟨g', c', h1, _, _, hc⟩
  · cases h1
  · injection h1 with h2 h3 h4
    injection h2 with h5
    injection h5 with h6
    subst h6
    exact hc i hi
theorem Top.drop {l : List Nat} (h : Top l) (j : Nat) : Top (l.drop j) := by
  unfold Top at *
  rw [List.getLast?_drop]
  split
  · simp
  · exact h
theorem parK (k : Nat) : (((k : Int) % 2) != 0) = decide (k % 2 = 1) := by
  by_cases h : k % 2 = 1
  · rw [decide_eq_true h]; simp; omega
  · rw [decide_eq_false h]; simp; omega
theorem hn_drop {w : World} {bp k cap : Nat} {p : List Nat} (hl : p.length ≤ cap) (hc : ∀ i, (hi : i < p.length) → w.cell? ⟨bp, i, none⟩ = some (.int .i64 (p[i] : Nat))) : ∀ (i : Nat) (u : Value), (ints (p.drop (k - 1)))[i]? = some u → w.cell? ((if cap = k - 1 then ⟨bp, 0, none⟩ else ⟨bp, k - 1, none⟩ : Addr).add i) = some u := by
  intro i u h
  split
  · exfalso
    unfold ints at h
    rw [List.getElem?_map, List.getElem?_eq_none (by rw [List.length_drop]; omega)] at h
    simp at h
  · exact ints_drop_at hc i u h
theorem rp_val (p : List Nat) (wp : Wds p) (k : Nat) (hk : 2 ≤ k) (hl : k - 1 ≤ p.length) (y : Nat) (hy : ∃ h : k - 2 < p.length, y = p[k - 2]) : rnd (wv p * 10000) (10000 ^ k) = wv (p.drop (k - 1)) + (if 5000 ≤ y then 1 else 0) := by
  obtain ⟨h, rfl⟩ := hy
  rw [rnd_cut p wp k (by omega) hl]
  have e := half_word p wp k hk h
  by_cases h5 : 5000 ≤ p[k - 2]
  · rw [if_pos h5, if_pos (e.mpr h5)]
  · rw [if_neg h5, if_neg (fun h9 => h5 (e.mp h9))]
set_option maxRecDepth 100000 in
set_option maxHeartbeats 1000000 in
theorem rp_pos2 (x : Int) (s k : Nat) (low : Bool) (w : World) (hi : I64 x) (hm : mayOk x = true) (hs : (x = s ∧ 0 ≤ x ∧ low = false) ∨ (x = -(s : Int) ∧ x < 0 ∧ low = true)) (hs1 : 1 ≤ s) (hs2 : s ≤ 9223372036854775807) (hk1 : 2 ≤ k) (hk2 : k ≤ 64) :
    Calls Tryd.prog 6 #[.int .i64 x, .int .i64 (k : Int)] w fun e w' => e = .returned (.tuple #[.int .i64 (pwV (rnd (s ^ k * 10000) (10000 ^ k)) (sgp low k)), .int .i64 (pwC (rnd (s ^ k * 10000) (10000 ^ k)))]) ∧ Below w.heap.size w w' := by
  obtain ⟨i0, hi0, hz0, hz1, hz2⟩ := info_parts infoInt
  have HI := Lib.hid hi0
  have HZ0 := Lib.hid hz0
  have HZ1 := Lib.hid hz1
  have HZ2 := Lib.hid hz2
  clear hi0 hz0 hz1 hz2
  have d1 : decide (64 < (k : Int)) = false := decide_eq_false (by omega)
  have d2 : ¬ (k : Int) < -64 := by omega
  have d3 : ((k : Int) == 0) = false := by simp; omega
  have d5 : ¬ (k : Int) < 0 := by omega
  have e1 : (k : Int) - 1 = ((k - 1 : Nat) : Int) := by omega
  have e2 : (k : Int) - 2 = ((k - 2 : Nat) : Int) := by omega
  have d7 : (1 : Int) < (k : Int) := by omega
  have HS := Lib.hid hs
  have HP := Lib.hid (show 0 < s ^ k from Nat.pow_pos hs1)
  clear hs
  go_enter Tryd.func6, Tryd.ntmps6
  go_wp2_with (first
    | (go_at_call 14; refine (rmayAny _ _ hi).mono ?_; rintro e w ⟨rfl, rfl⟩)
    | (go_at_call 18; refine (rsize_n s x low _ HS.out hs2).mono ?_; rintro e w ⟨rfl, rfl⟩)
    | (go_at_call 21; refine (great_any s _ (by omega)).mono ?_; rintro e w2 ⟨g, vg, rfl, g1, g2, g3, g4, g5, g6⟩; have G1 := Lib.hid g1; have G2 := Lib.hid g2; have G4 := Lib.hid g4; clear g1 g2 g3 g4)
    | (go_at_call 20; refine (raised_any _ g k _ G1.out G2.out g5 hk2).mono ?_; rintro e w3 ⟨p, vp, rfl, p1, p2, p3, p4, p5, p6⟩; have P1 := Lib.hid p1; have P2 := Lib.hid p2; have P3 := Lib.hid p3; have P4 := Lib.hid (show wv p = s ^ k by rw [p4, G4.out]); clear p1 p2 p3 p4; obtain ⟨bp, cap, rfl, hcap, hcell⟩ := P1.out.some (by rintro rfl; have h1 := P4.out; have h2 := HP.out; rw [← h1] at h2; exact absurd h2 (by decide)); have HC := Lib.hid hcell; clear hcell)
    | (at_builtin; (refine wpList_append_own _ rfl _ _ 38 rfl 0 3 i0 (.int .i64 0) 1 8 Tryd.underlying38 HI.out HZ0.out HZ1.out HZ2.out rfl (by decide) (.slice none 0 0) 0 [] rfl (IsW.nil _) (if cap = k - 1 then ⟨bp, 0, none⟩ else ⟨bp, k - 1, none⟩) (p.length - (k - 1)) (cap - (k - 1)) (ints (p.drop (k - 1))) ?hx (by unfold ints; simp) (hn_drop hcap HC.out) (ints_one _) (by unfold maxLen; omega) (by omega) (Nat.zero_le _) ?_; rotate_left 1; intro v' w4 hown' hgrow _; have R := app_drop hown' hgrow; have R1 := Lib.hid R.1; have R2 := Lib.hid R.2; clear hown' hgrow; obtain ⟨y, hy, hc2⟩ : ∃ y, Hid (∃ h : k - 2 < p.length, y = p[k - 2]) ∧ w4.cell? ⟨bp, k - 2, none⟩ = some (.int .i64 (y : Nat)) := ⟨p[k - 2]'(by omega), Lib.hid ⟨by omega, rfl⟩, (P1.out.keep R.2).cellAt _ _⟩; clear R; have VV := Lib.hid (rp_val p P2.out k hk1 (by omega) y hy.out)))
    | (go_at_call 24; refine (next_any _ (p.drop (k - 1)) _ R1.out (P2.out.drop _) (by rw [List.length_drop]; omega)).mono ?_; rintro e w5 ⟨m, vm, rfl, m1, m2, m3, m4, m6⟩; have M1 := Lib.hid m1; have M2 := Lib.hid m2; have M3 := Lib.hid m3; have M4 := Lib.hid (show wv m = rnd (s ^ k * 10000) (10000 ^ k) by rw [m4, ← P4.out, VV.out, if_pos (by omega)]); have M6 := Lib.hid (bup (bup (bup g6 p6) R2.out) m6); clear m1 m2 m3 m4 m6)
    | (go_at_call 22; refine (small_any _ m _ M1.out M2.out M3.out).mono ?_; rintro e w5 ⟨rfl, rfl⟩)
    | (go_at_call 22; obtain ⟨m, hm9⟩ : ∃ m, m = p.drop (k - 1) := ⟨_, rfl⟩; have M4 := Lib.hid (show wv m = rnd (s ^ k * 10000) (10000 ^ k) by rw [hm9, ← P4.out, VV.out, if_neg (by omega)]; rfl); have M6 := Lib.hid (bup (bup g6 p6) R2.out); refine (small_any _ m _ (by rw [hm9]; exact R1.out) (by rw [hm9]; exact P2.out.drop _) (by rw [hm9]; exact P3.out.drop _)).mono ?_; clear hm9; rintro e w5 ⟨rfl, rfl⟩)
    | (go_at_call 23; refine (rsgn_any _ _ _ (smV_le _)).mono ?_; rintro e w5 ⟨rfl, rfl⟩))
  · have hz : rnd (s ^ k * 10000) (10000 ^ k) = 0 := by rw [← P4.out]; exact rnd_few p P2.out k (by omega)
    go_ret2
    refine ⟨ret2 (a := 0) (c := 0) ?_ ?_, bup g6 p6⟩
    · rw [hz]; unfold pwV; cases sgp low k <;> rfl
    · rw [hz]; rfl
  all_goals go_ret2
  all_goals refine ⟨?_, M6.out⟩
  all_goals first
    | (have hb : ¬ wv m ≤ 9223372036854775807 := nle_of (by assumption)
       rw [M4.out] at hb
       exact ret2 (pw_big _ _ hb).1.symm (pw_big _ true hb).2.symm)
    | (have hb : wv m ≤ 9223372036854775807 := le_of (by assumption)
       have hl : low = true := by assumption
       subst hl
       refine ret2 (b := pwV (rnd (s ^ k * 10000) (10000 ^ k)) (sgp true k)) (d := pwC (rnd (s ^ k * 10000) (10000 ^ k))) ((pw_sm _ _ hb).1.trans ?_) ((pw_sm _ true hb).2.trans ?_)
       · rw [M4.out, parK]; rfl
       · rw [M4.out])
    | (have hb : wv m ≤ 9223372036854775807 := le_of (by assumption)
       have hl : low = false := by first | assumption | exact Bool.eq_false_iff.mpr (by assumption) | exact eq_false_of_ne_true (by assumption)
       subst hl
       refine ret2 (b := pwV (rnd (s ^ k * 10000) (10000 ^ k)) (sgp false k)) (d := pwC (rnd (s ^ k * 10000) (10000 ^ k))) ((pw_sm _ _ hb).1.trans ?_) ((pw_sm _ true hb).2.trans ?_)
       · rw [M4.out]; rfl
       · rw [M4.out])
end Go.Proofs.YtkbpjomkbelaaaaDoor
