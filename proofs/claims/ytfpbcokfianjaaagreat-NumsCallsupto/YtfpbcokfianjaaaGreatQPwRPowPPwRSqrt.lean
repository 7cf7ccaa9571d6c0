/- Parts of the contract of the document's Power: above the exponent 0. New memory alone is made. · The contract of the document's Sqrt, of every int64: the same root as dec's. New memory alone is made. -/
import Derived.Test.YtfpbcokfianjaaaGreatQPwRPowPwRPowN
import Derived.Test.YtfpbcokfianjaaaGreatQPwPWordPwPQuo
import Derived.Test.YtfpbcokfianjaaaGreatQPwUTimesSqrt
namespace Go.Proofs.YtfpbcokfianjaaaGreat.Pw
open Go.Shelf Go.RowKit
set_option linter.all false
theorem app_drop {w3 w1 : World} {v' : Value} {p : List Nat} {j : Nat} (ho : w1.ownsRow 0 3 1 v' (0 + (p.length - j)) ([] ++ ints (p.drop j))) (hg : w3.grownBy w1 (Value.slice none 0 0).ownBlock) : IsW w1 v' (p.drop j) ∧ Below w3.heap.size w3 w1 := by
  refine ⟨?_, ?_⟩
  · unfold IsW; rw [List.length_drop]; rw [Nat.zero_add] at ho; exact ho
  · exact Below.grown (Below.refl _ _) hg (Nat.le_refl _) (fun k hk => by cases hk)
theorem ints_drop_at {w : World} {bp j : Nat} {p : List Nat} (hc : ∀ i, (hi : i < p.length) → w.cell? ⟨bp, i, none⟩ = some (.int .i64 (p[i] : Nat))) : ∀ (i : Nat) (u : Value), (ints (p.drop j))[i]? = some u → w.cell? ((⟨bp, j, none⟩ : Addr).add i) = some u := by
  intro i u h
  unfold ints at h
  rw [List.getElem?_map, List.getElem?_drop] at h
  by_cases hl : j + i < p.length
  · rw [List.getElem?_eq_getElem hl] at h
    simp at h
    subst h
    have h9 := hc (j + i) hl
    unfold Addr.add
    split
    · rename_i h0; have : i = 0 := by simpa using h0
      subst this; exact h9
    · exact h9
  · rw [List.getElem?_eq_none (by omega)] at h; simp at h
theorem ints_one (l : List Nat) : ∀ u, u ∈ ints l → u.oneCell' = true := by
  intro u hu; unfold ints at hu; simp at hu; obtain ⟨a, _, rfl⟩ := hu; rfl
theorem IsW.cellAt {w : World} {g cap : Nat} {l : List Nat} (h : IsW w (.slice (Option.some ⟨g, 0, none⟩) l.length cap) l) (i : Nat) (hi : i < l.length) : w.cell? ⟨g, i, none⟩ = Option.some (.int .i64 (l[i] : Nat)) := by
  rcases h.lies with ⟨h1, _⟩ | ⟨g', c', h1, _, _, hc⟩
  · cases h1
  · injection h1 with h2 h3 h4
    injection h2 with h5
    injection h5 with h6
    subst h6
    exact hc i hi
theorem Top.drop {l : List Nat} (h : Top l) (j : Nat) : Top (l.drop j) := by
  unfold Top at *
  rw [List.getLast?_drop]
  split
  · simp
  · exact h
theorem parK (k : Nat) : (((k : Int) % 2) != 0) = decide (k % 2 = 1) := by
  by_cases h : k % 2 = 1
  · rw [decide_eq_true h]; simp; omega
  · rw [decide_eq_false h]; simp; omega
theorem hn_drop {w : World} {bp k cap : Nat} {p : List Nat} (hl : p.length ≤ cap) (hc : ∀ i, (hi : i < p.length) → w.cell? ⟨bp, i, none⟩ = some (.int .i64 (p[i] : Nat))) : ∀ (i : Nat) (u : Value), (ints (p.drop (k - 1)))[i]? = some u → w.cell? ((if cap = k - 1 then ⟨bp, 0, none⟩ else ⟨bp, k - 1, none⟩ : Addr).add i) = some u := by
  intro i u h
  split
  · exfalso
    unfold ints at h
    rw [List.getElem?_map, List.getElem?_eq_none (by rw [List.length_drop]; omega)] at h
    simp at h
  · exact ints_drop_at hc i u h
theorem rp_val (p : List Nat) (wp : Wds p) (k : Nat) (hk : 2 ≤ k) (hl : k - 1 ≤ p.length) (y : Nat) (hy : ∃ h : k - 2 < p.length, y = p[k - 2]) : rnd (wv p * 10000) (10000 ^ k) = wv (p.drop (k - 1)) + (if 5000 ≤ y then 1 else 0) := by
  obtain ⟨h, rfl⟩ := hy
  rw [rnd_cut p wp k (by omega) hl]
  have e := half_word p wp k hk h
  by_cases h5 : 5000 ≤ p[k - 2]
  · rw [if_pos h5, if_pos (e.mpr h5)]
  · rw [if_neg h5, if_neg (fun h9 => h5 (e.mp h9))]
set_option maxRecDepth 100000 in
set_option maxHeartbeats 1000000 in
theorem rp_pos2 (x : Int) (s k : Nat) (low : Bool) (w : World) (hi : I64 x) (hm : mayOk x = true) (hs : (x = s ∧ 0 ≤ x ∧ low = false) ∨ (x = -(s : Int) ∧ x < 0 ∧ low = true)) (hs1 : 1 ≤ s) (hs2 : s ≤ 9223372036854775807) (hk1 : 2 ≤ k) (hk2 : k ≤ 64) :
    Calls Tryz.prog 45 #[.int .i64 x, .int .i64 (k : Int)] w fun e w' => e = .returned (.tuple #[.int .i64 (pwV (rnd (s ^ k * 10000) (10000 ^ k)) (sgp low k)), .int .i64 (pwC (rnd (s ^ k * 10000) (10000 ^ k)))]) ∧ Below w.heap.size w w' := by
  obtain ⟨i0, hi0, hz0, hz1, hz2⟩ := info_parts infoInt
  have HI := Lib.hid hi0
  have HZ0 := Lib.hid hz0
  have HZ1 := Lib.hid hz1
  have HZ2 := Lib.hid hz2
  clear hi0 hz0 hz1 hz2
  have d1 : decide (64 < (k : Int)) = false := decide_eq_false (by omega)
  have d2 : ¬ (k : Int) < -64 := by omega
  have d3 : ((k : Int) == 0) = false := by simp; omega
  have d5 : ¬ (k : Int) < 0 := by omega
  have e1 : (k : Int) - 1 = ((k - 1 : Nat) : Int) := by omega
  have e2 : (k : Int) - 2 = ((k - 2 : Nat) : Int) := by omega
  have d7 : (1 : Int) < (k : Int) := by omega
  have HS := Lib.hid hs
  have HP := Lib.hid (show 0 < s ^ k from Nat.pow_pos hs1)
  clear hs
  go_enter Tryz.func45, Tryz.ntmps45
  go_wp2_with (first
    | (go_at_call 37; refine (rmayAny _ _ hi).mono ?_; rintro e w ⟨rfl, rfl⟩)
    | (go_at_call 77; refine (rsize_n s x low _ HS.out hs2).mono ?_; rintro e w ⟨rfl, rfl⟩)
    | (go_at_call 75; refine (great_any s _ (by omega)).mono ?_; rintro e w2 ⟨g, vg, rfl, g1, g2, g3, g4, g5, g6⟩; have G1 := Lib.hid g1; have G2 := Lib.hid g2; have G4 := Lib.hid g4; clear g1 g2 g3 g4)
    | (go_at_call 80; refine (raised_any _ g k _ G1.out G2.out g5 hk2).mono ?_; rintro e w3 ⟨p, vp, rfl, p1, p2, p3, p4, p5, p6⟩; have P1 := Lib.hid p1; have P2 := Lib.hid p2; have P3 := Lib.hid p3; have P4 := Lib.hid (show wv p = s ^ k by rw [p4, G4.out]); clear p1 p2 p3 p4; obtain ⟨bp, cap, rfl, hcap, hcell⟩ := P1.out.some (by rintro rfl; have h1 := P4.out; have h2 := HP.out; rw [← h1] at h2; exact absurd h2 (by decide)); have HC := Lib.hid hcell; clear hcell)
    | (at_builtin; (refine wpList_append_own _ rfl _ _ 93 rfl 0 3 i0 (.int .i64 0) 1 8 Tryz.underlying93 HI.out HZ0.out HZ1.out HZ2.out rfl (by decide) (.slice none 0 0) 0 [] rfl (IsW.nil _) (if cap = k - 1 then ⟨bp, 0, none⟩ else ⟨bp, k - 1, none⟩) (p.length - (k - 1)) (cap - (k - 1)) (ints (p.drop (k - 1))) ?hx (by unfold ints; simp) (hn_drop hcap HC.out) (ints_one _) (by unfold maxLen; omega) (by omega) (Nat.zero_le _) ?_; rotate_left 1; intro v' w4 hown' hgrow _; have R := app_drop hown' hgrow; have R1 := Lib.hid R.1; have R2 := Lib.hid R.2; clear hown' hgrow; obtain ⟨y, hy, hc2⟩ : ∃ y, Hid (∃ h : k - 2 < p.length, y = p[k - 2]) ∧ w4.cell? ⟨bp, k - 2, none⟩ = some (.int .i64 (y : Nat)) := ⟨p[k - 2]'(by omega), Lib.hid ⟨by omega, rfl⟩, (P1.out.keep R.2).cellAt _ _⟩; clear R; have VV := Lib.hid (rp_val p P2.out k hk1 (by omega) y hy.out)))
    | (go_at_call 82; refine (next_any _ (p.drop (k - 1)) _ R1.out (P2.out.drop _) (by rw [List.length_drop]; omega)).mono ?_; rintro e w5 ⟨m, vm, rfl, m1, m2, m3, m4, m6⟩; have M1 := Lib.hid m1; have M2 := Lib.hid m2; have M3 := Lib.hid m3; have M4 := Lib.hid (show wv m = rnd (s ^ k * 10000) (10000 ^ k) by rw [m4, ← P4.out, VV.out, if_pos (by omega)]); have M6 := Lib.hid (bup (bup (bup g6 p6) R2.out) m6); clear m1 m2 m3 m4 m6)
    | (go_at_call 81; refine (small_any _ m _ M1.out M2.out M3.out).mono ?_; rintro e w5 ⟨rfl, rfl⟩)
    | (go_at_call 81; obtain ⟨m, hm9⟩ : ∃ m, m = p.drop (k - 1) := ⟨_, rfl⟩; have M4 := Lib.hid (show wv m = rnd (s ^ k * 10000) (10000 ^ k) by rw [hm9, ← P4.out, VV.out, if_neg (by omega)]; rfl); have M6 := Lib.hid (bup (bup g6 p6) R2.out); refine (small_any _ m _ (by rw [hm9]; exact R1.out) (by rw [hm9]; exact P2.out.drop _) (by rw [hm9]; exact P3.out.drop _)).mono ?_; clear hm9; rintro e w5 ⟨rfl, rfl⟩)
    | (go_at_call 78; refine (rsgn_any _ _ _ (smV_le _)).mono ?_; rintro e w5 ⟨rfl, rfl⟩))
  · have hz : rnd (s ^ k * 10000) (10000 ^ k) = 0 := by rw [← P4.out]; exact rnd_few p P2.out k (by omega)
    go_ret2
    refine ⟨ret2 (a := 0) (c := 0) ?_ ?_, bup g6 p6⟩
    · rw [hz]; unfold pwV; cases sgp low k <;> rfl
    · rw [hz]; rfl
  all_goals go_ret2
  all_goals refine ⟨?_, M6.out⟩
  all_goals first
    | (have hb : ¬ wv m ≤ 9223372036854775807 := nle_of (by assumption)
       rw [M4.out] at hb
       exact ret2 (pw_big _ _ hb).1.symm (pw_big _ true hb).2.symm)
    | (have hb : wv m ≤ 9223372036854775807 := le_of (by assumption)
       have hl : low = true := by assumption
       subst hl
       refine ret2 (b := pwV (rnd (s ^ k * 10000) (10000 ^ k)) (sgp true k)) (d := pwC (rnd (s ^ k * 10000) (10000 ^ k))) ((pw_sm _ _ hb).1.trans ?_) ((pw_sm _ true hb).2.trans ?_)
       · rw [M4.out, parK]; rfl
       · rw [M4.out])
    | (have hb : wv m ≤ 9223372036854775807 := le_of (by assumption)
       have hl : low = false := by first | assumption | exact Bool.eq_false_iff.mpr (by assumption) | exact eq_false_of_ne_true (by assumption)
       subst hl
       refine ret2 (b := pwV (rnd (s ^ k * 10000) (10000 ^ k)) (sgp false k)) (d := pwC (rnd (s ^ k * 10000) (10000 ^ k))) ((pw_sm _ _ hb).1.trans ?_) ((pw_sm _ true hb).2.trans ?_)
       · rw [M4.out]; rfl
       · rw [M4.out])
end Go.Proofs.YtfpbcokfianjaaaGreat.Pw
namespace Go.Proofs.YtfpbcokfianjaaaGreat.Pw
open Go.Shelf Go.RowKit
set_option linter.all false
theorem isW_two (w : World) (x y : Nat) : IsW (w.alloc (.cells #[.int .i64 (x : Int), .int .i64 (y : Int)] 3)) (.slice (some ⟨w.heap.size, 0, none⟩) 2 2) [x, y] := by
  have h := World.ownsRow_lit (base := 0) (e := 3) (size := 1) w #[.int .i64 (x : Int), .int .i64 (y : Int)] 2 (Nat.zero_le _) (by unfold maxLen; decide) rfl
  exact h
theorem root_of {T l : Nat} (h1 : l * l ≤ T) (h2 : T < (l + 1) * (l + 1)) (hl : l ≤ 1099511627774) : RootInv (T : Int) 0 (((l + 1) / 2 : Nat) : Int) := by
  have e0 : ((2 ^ 0 : Nat) : Int) = 1 := rfl
  have h1' : (l : Int) * (l : Int) ≤ (T : Int) := by rw [← Int.natCast_mul]; omega
  have h2' : (T : Int) < ((l : Int) + 1) * ((l : Int) + 1) := by
    have : ((T : Nat) : Int) < (((l + 1) * (l + 1) : Nat) : Int) := by omega
    rw [Int.natCast_mul] at this; simpa using this
  refine ⟨by omega, ?_, ?_, by rw [e0]; omega⟩
  · by_cases h0 : (l + 1) / 2 = 0
    · exact .inl (by omega)
    · refine .inr ?_
      have hle : 2 * (((l + 1) / 2 : Nat) : Int) - 1 ≤ (l : Int) := by omega
      have hge : 0 ≤ 2 * (((l + 1) / 2 : Nat) : Int) - 1 := by omega
      have := Int.mul_le_mul hle hle hge (by omega)
      omega
  · rw [e0]
    have hle : (l : Int) + 1 ≤ 2 * ((((l + 1) / 2 : Nat) : Int) + 1) - 1 := by omega
    have := Int.mul_le_mul hle hle (by omega) (by omega)
    omega
set_option maxRecDepth 100000 in
set_option maxHeartbeats 1000000 in
theorem rsqrt_ok (x : Nat) (w : World) (hx : x ≤ 9223372036854775807) : Calls Tryz.prog 40 #[.int .i64 x] w fun e w' => (∃ r : Int, e = .returned (.tuple #[.int .i64 r, .int .i64 0]) ∧ RootInv ((x : Int) * 40000) 0 r) ∧ Below w.heap.size w w' := by
  have hi : I64 (x : Int) := ⟨by omega, by omega⟩
  have hm : mayOk (x : Int) = true := mayOk_t (by omega)
  have hx0 : ¬ (x : Int) < 0 := by omega
  have x1 : IntKind.u64.wrap (x : Int) = (x : Int) := by rw [wrapU]; omega
  go_enter Tryz.func40, Tryz.ntmps40
  go_wp2_with (first
    | (go_at_call 37; refine (rmayAny _ _ hi).mono ?_; rintro e w ⟨rfl, rfl⟩)
    | (go_at_call 75; refine (great_any x _ (by omega)).mono ?_; rintro e w2 ⟨g, vg, rfl, g1, g2, g3, g4, g5, g6⟩; have G1 := Lib.hid g1; have G2 := Lib.hid g2; have G4 := Lib.hid g4; clear g1 g2 g3 g4)
    | (go_at_call 74; refine (product_any _ _ g [0, 4] _ (G1.out.keep (bal _ _)) (isW_two _ 0 4) G2.out (fun y hy => by simp at hy; omega) (by simp; omega)).mono ?_; rintro e w3 ⟨m, vm, rfl, p1, p2, p3, p4, p5, p6⟩; have P1 := Lib.hid p1; have P2 := Lib.hid p2; have P3 := Lib.hid p3; have P4 := Lib.hid (show wv m = x * 40000 by rw [p4, G4.out]; simp [wv]); have B3 := bup (bup g6 (bal w2 _)) p6; clear p1 p2 p3 p4))
  go_loopw [5, 6] (fun a b wr => ∃ (lo hi : Nat), lo < hi ∧ hi ≤ 1099511627776 ∧ a = .int .u64 lo ∧ b = .int .u64 hi ∧ lo * lo ≤ x * 40000 ∧ x * 40000 < hi * hi ∧ Below w3.heap.size w3 wr) (fun a b _ => (intOf b - intOf a).toNat)
  case atStart => exact ⟨0, 1099511627776, by decide, by decide, rfl, rfl, by simp, by omega, Below.refl _ _⟩
  case round =>
    obtain ⟨lo, hi, h1, h2, rfl, rfl, h3, h4, hB⟩ := hrel
    have H3 := Lib.hid h3
    have H4 := Lib.hid h4
    clear h3 h4
    by_cases hd : hi - lo > 1
    · have s1 : IntKind.u64.wrap ((hi : Int) - (lo : Int)) = (hi : Int) - (lo : Int) := by rw [wrapU]; omega
      have hd' : (1 : Int) < (hi : Int) - (lo : Int) := by omega
      obtain ⟨mid, hmid⟩ : ∃ mid : Nat, mid = (lo + hi) / 2 := ⟨_, rfl⟩
      have s2 : IntKind.u64.wrap ((lo : Int) + (hi : Int)) = (lo : Int) + (hi : Int) := by rw [wrapU]; omega
      have e0' : ((lo : Int) + (hi : Int)) / 2 = (mid : Int) := by omega
      have e0 : ((lo : Int) + (hi : Int)).tdiv 2 = (mid : Int) := by rw [Int.tdiv_eq_ediv_of_nonneg (by omega)]; omega
      have s3 : IntKind.u64.wrap (mid : Int) = (mid : Int) := by rw [wrapU]; omega
      have hm1 : lo < mid := by omega
      have hm2 : mid < hi := by omega
      clear hmid hd
      go_wp2_with (first
        | (go_at_call 75; refine (great_any mid _ (by omega)).mono ?_; rintro e w4 ⟨k, vk, rfl, k1, k2, k3, k4, k5, k6⟩; have K1 := Lib.hid k1; have K2 := Lib.hid k2; have K4 := Lib.hid k4; clear k1 k2 k3 k4)
        | (go_at_call 74; refine (product_any _ _ k k _ K1.out K1.out K2.out K2.out (by omega)).mono ?_; rintro e w5 ⟨q, vq, rfl, q1, q2, q3, q4, q5, q6⟩; have Q1 := Lib.hid q1; have Q2 := Lib.hid q2; have Q3 := Lib.hid q3; have Q4 := Lib.hid (show wv q = mid * mid by rw [q4, K4.out]); clear q1 q2 q3 q4)
        | (go_at_call 76; refine (below_any _ _ m q _ (P1.out.keep (bup (bup hB k6) q6)) Q1.out P2.out Q2.out P3.out Q3.out).mono ?_; rintro e w6 ⟨rfl, kk, rfl⟩))
      · go_roundw
        case rel => exact ⟨lo, mid, hm1, by omega, rfl, rfl, H3.out, by (have qq : wv m < wv q := by (first | assumption | (have := ‹decide (wv m < wv q) = true›; simpa using this))); rw [P4.out, Q4.out] at qq; exact qq, below_drewN' (bup (bup hB k6) q6) kk⟩
        case measure => simp [intOf]; omega
      · go_roundw
        case rel => exact ⟨mid, hi, hm2, h2, rfl, rfl, by (have qq : ¬ wv m < wv q := by (first | assumption | (apply Nat.not_lt.2; assumption) | (have := ‹decide (wv m < wv q) = false›; simpa using this))); rw [P4.out, Q4.out] at qq; omega, H4.out, below_drewN' (bup (bup hB k6) q6) kk⟩
        case measure => simp [intOf]; omega
    · have HH := Lib.hid (show hi = lo + 1 by omega)
      have s1 : IntKind.u64.wrap ((hi : Int) - (lo : Int)) = (hi : Int) - (lo : Int) := by rw [wrapU]; omega
      have hd' : ¬ (1 : Int) < (hi : Int) - (lo : Int) := by omega
      have hb : lo ≤ 1099511627774 := by
        apply Nat.le_of_not_lt
        intro k
        have := Nat.mul_le_mul (show 1099511627775 ≤ lo by omega) (show 1099511627775 ≤ lo by omega)
        have := H3.out
        omega
      obtain ⟨r, hr⟩ : ∃ r : Nat, r = (lo + 1) / 2 := ⟨_, rfl⟩
      have t1 : IntKind.u64.wrap ((lo : Int) + 1) = (lo : Int) + 1 := by rw [wrapU]; omega
      have t2 : ((lo : Int) + 1).tdiv 2 = (r : Int) := by rw [Int.tdiv_eq_ediv_of_nonneg (by omega)]; omega
      have t3 : ((lo : Int) + 1) / 2 = (r : Int) := by omega
      have t4 : IntKind.u64.wrap (r : Int) = (r : Int) := by rw [wrapU]; omega
      have t5 : IntKind.i64.wrap (r : Int) = (r : Int) := by rw [IntKind.wrap_i64]; omega
      have RT := Lib.hid (root_of H3.out (by have := H4.out; rw [HH.out] at this; exact this) hb)
      rw [← hr] at RT
      clear hb hr
      go_wp2
      go_ret2
      refine ⟨⟨_, rfl, ?_⟩, bup B3 hB⟩
      have e := RT.out
      rw [Int.natCast_mul] at e
      first | exact e | simpa using e
end Go.Proofs.YtfpbcokfianjaaaGreat.Pw
