/- That nums's Call and the document's answer the same of any name and arguments. The condition: the numbers and the lists' lengths fit. · How a list of arguments, each with its entries, comes in, and its bulk. -/
import Derived.Test.YtfpbcokfianjaaaGreatQNOhNOt
import Derived.Test.YtfpbcokfianjaaaGreatQNOmNTf
import Derived.Test.YtfpbcokfianjaaaGreatRows
import Derived.ProofKit
import Derived.OpenShut
import Derived.ShutString
import Derived.Deep.Slices
import Derived.Deep.DeepHandedRow
import Derived.SizedLaws
import Derived.WideKeyArgs
namespace Go.Proofs.YtfpbcokfianjaaaGreat
open Go.RowKit
set_option linter.all false
theorem whole0 : wholeOk 0 = true := by decide
theorem bo_case (s : ByteArray) (l : List Ag) (hN : Hid (Nums l)) (hl40 : l.length ≤ 1099511627776) (h0 : 0 < l.length) (hr : Hid ((hasB (wlI s) (whI s) (l.length : Int) && !l.any nosB) = true)) (ha : firstF l = none) (hF : Hid (firstC l = 0)) (hl : Ins (l.map asN)) (k : Nat) (h : k < 16) (hs : s = ⟨(nms.getD k []).toArray⟩) (hc : hasB (loI k) (hiI k) ((l.map asN).length : Int) = true) : Bo s k l := by
  match k, h, hs, hc with
  | 0, _, hs, hc =>
    have hb := has_bd (k := 0) hc
    obtain ⟨x, hx1⟩ := len1 (show (l.map asN).length = 1 by have h1 := hb.1; have h2 := hb.2; simp [loI, hiI] at h1 h2; simp; omega)
    have hx : In x := hl x (by rw [hx1]; simp)
    exact bo1_ABS hs hN hl40 h0 hr ha hF hx1 1 (sz x) ⟨#[]⟩ false 0 (fun W b h => abs_any x b W h hx) (fun W => one_abs x W hx)
  | 1, _, hs, hc =>
    have hb := has_bd (k := 0) hc
    obtain ⟨x, hx1⟩ := len1 (show (l.map asN).length = 1 by have h1 := hb.1; have h2 := hb.2; simp [loI, hiI] at h1 h2; simp; omega)
    have hx : In x := hl x (by rw [hx1]; simp)
    exact bo1_SIGN hs hN hl40 h0 hr ha hF hx1 1 (cmpI x 0 * 10000) ⟨#[]⟩ false 0 (fun W b h => sign_any x b W h) (fun W => one_sign x W hx)
  | 2, _, hs, hc =>
    have hb := has_bd (k := 0) hc
    obtain ⟨x, hx1⟩ := len1 (show (l.map asN).length = 1 by have h1 := hb.1; have h2 := hb.2; simp [loI, hiI] at h1 h2; simp; omega)
    have hx : In x := hl x (by rw [hx1]; simp)
    exact bo1_INT hs hN hl40 h0 hr ha hF hx1 (tT (okC (floorOk x))) (okV (floorOk x) (x - x % 10000)) ⟨#[]⟩ false (okC (floorOk x)) (fun W b h => int_any x b W h hx) (fun W => one_int x W hx)
  | 3, _, hs, hc =>
    have hb := has_bd (k := 0) hc
    have h12 : (l.map asN).length = 1 ∨ (l.map asN).length = 2 := by have h1 := hb.1; have h2 := hb.2; simp [loI, hiI] at h1 h2; simp; omega
    rcases h12 with h12 | h12
    · obtain ⟨x, hx1⟩ := len1 h12
      have hx : In x := hl x (by rw [hx1]; simp)
      exact bot_TRUNC (N' := []) hs hN hl40 h0 hr ha hF (a0 := x) (a1 := 0) (by rw [hx1]; rfl) 1 (x - x.tmod 10000) ⟨#[]⟩ false 0 (by rw [hx1]; exact fun W b h => trunc_1 x b W h hx) (fun W => two_trunc_in x 0 4 W hx in0 whole0 (by decide) (by decide) (by decide))
    · obtain ⟨x, y, hx1⟩ := len2 h12
      have hx : In x := hl x (by rw [hx1]; simp)
      have hy : In y := hl y (by rw [hx1]; simp)
      have hap : l.map asN ++ [0] = x :: y :: [0] := by rw [hx1]; rfl
      cases hw : wholeOk y
      · exact bot_TRUNC hs hN hl40 h0 hr ha hF hap 4 0 ⟨#[]⟩ false 8 (by rw [hx1]; exact fun W b h => trunc2_no x y b W h hy hw) (fun W => two_trunc_no x y W hy hw)
      · have hp := plc_eq hw
        by_cases h3 : 3 < plc y
        · exact bot_TRUNC hs hN hl40 h0 hr ha hF hap 1 (x) ⟨#[]⟩ false 0 (by rw [hx1]; exact fun W b h => trunc2_hi x y b W h hx hy hw h3) (fun W => two_trunc_hi x y W hx hy hw (by omega))
        by_cases h4 : plc y ≤ -15
        · exact bot_TRUNC hs hN hl40 h0 hr ha hF hap 1 (0) ⟨#[]⟩ false 0 (by rw [hx1]; exact fun W b h => trunc2_lo x y b W h hy hw h4) (fun W => two_trunc_lo x y W hy hw (by omega))
        · exact bot_TRUNC hs hN hl40 h0 hr ha hF hap 1 (x - x.tmod ((10 ^ (4 - plc y).toNat : Nat) : Int)) ⟨#[]⟩ false 0 (by rw [hx1]; exact fun W b h => trunc2_in x y (4 - plc y).toNat b W h hx hy hw (by omega) (by omega) (by omega)) (fun W => two_trunc_in x y (4 - plc y).toNat W hx hy hw (by omega) (by omega) (by omega))
  | 4, _, hs, hc =>
    have hb := has_bd (k := 0) hc
    have h12 : (l.map asN).length = 1 ∨ (l.map asN).length = 2 := by have h1 := hb.1; have h2 := hb.2; simp [loI, hiI] at h1 h2; simp; omega
    rcases h12 with h12 | h12
    · obtain ⟨x, hx1⟩ := len1 h12
      have hx : In x := hl x (by rw [hx1]; simp)
      exact bot_ROUND (N' := []) hs hN hl40 h0 hr ha hF (a0 := x) (a1 := 0) (by rw [hx1]; rfl) (tT (okC (roundOk x 0))) (okV (roundOk x 0) (roundN x 0)) ⟨#[]⟩ false (okC (roundOk x 0)) (by rw [hx1]; exact fun W b h => round_1 x b W h hx) (fun W => two_round x 0 W hx in0 whole0)
    · obtain ⟨x, y, hx1⟩ := len2 h12
      have hx : In x := hl x (by rw [hx1]; simp)
      have hy : In y := hl y (by rw [hx1]; simp)
      have hap : l.map asN ++ [0] = x :: y :: [0] := by rw [hx1]; rfl
      cases hw : wholeOk y
      · exact bot_ROUND hs hN hl40 h0 hr ha hF hap 4 0 ⟨#[]⟩ false 8 (by rw [hx1]; exact fun W b h => round_no x y b W h hy hw) (fun W => two_round_no x y W hy hw)
      · have hp := round_plc x hw
        exact bot_ROUND hs hN hl40 h0 hr ha hF hap (tT (okC (roundOk x (y.tdiv 10000)))) (okV (roundOk x (y.tdiv 10000)) (roundN x (y.tdiv 10000))) ⟨#[]⟩ false (okC (roundOk x (y.tdiv 10000))) (by rw [hx1, ← hp.1, ← hp.2]; exact fun W b h => round_2 x y b W h hx hy hw) (fun W => two_round x y W hx hy hw)
  | 5, _, hs, hc =>
    have hb := has_bd (k := 0) hc
    obtain ⟨x, y, hx1⟩ := len2 (show (l.map asN).length = 2 by have h1 := hb.1; have h2 := hb.2; simp [loI, hiI] at h1 h2; simp; omega)
    have hx : In x := hl x (by rw [hx1]; simp)
    have hy : In y := hl y (by rw [hx1]; simp)
    by_cases h0s : 0 < y
    · exact bo2_FLOOR hs hN hl40 h0 hr ha hF hx1 (tT (okC (subOk x (modV x y)))) (okV (subOk x (modV x y)) (x - modV x y)) ⟨#[]⟩ false (okC (subOk x (modV x y))) (fun W b h => floor_ok x y b W h h0s hx hy) (fun W => two_floor_ok x y W hx hy h0s)
    · exact bo2_FLOOR hs hN hl40 h0 hr ha hF hx1 4 0 ⟨#[]⟩ false 8 (fun W b h => floor_no x y b W h (by omega) hy) (fun W => two_floor_no x y W (by omega))
  | 6, _, hs, hc =>
    have hb := has_bd (k := 0) hc
    obtain ⟨x, y, hx1⟩ := len2 (show (l.map asN).length = 2 by have h1 := hb.1; have h2 := hb.2; simp [loI, hiI] at h1 h2; simp; omega)
    have hx : In x := hl x (by rw [hx1]; simp)
    have hy : In y := hl y (by rw [hx1]; simp)
    by_cases h0s : 0 < y
    · have q := ceil_two hx h0s hy
      exact bo2_CEIL hs hN hl40 h0 hr ha hF hx1 (tT (okC (subOk (-x) (modV (-x) y)))) (-okV (subOk (-x) (modV (-x) y)) (-x - modV (-x) y)) ⟨#[]⟩ false (okC (subOk (-x) (modV (-x) y))) (by rw [← q.1, ← q.2]; exact fun W b h => ceil_ok x y b W h h0s hx hy) (fun W => two_ceil_ok x y W hx hy h0s)
    · exact bo2_CEIL hs hN hl40 h0 hr ha hF hx1 4 0 ⟨#[]⟩ false 8 (fun W b h => ceil_no x y b W h (by omega) hy) (fun W => two_ceil_no x y W hx (by omega))
  | 7, _, hs, hc =>
    have hb := has_bd (k := 0) hc
    obtain ⟨x, y, hx1⟩ := len2 (show (l.map asN).length = 2 by have h1 := hb.1; have h2 := hb.2; simp [loI, hiI] at h1 h2; simp; omega)
    have hx : In x := hl x (by rw [hx1]; simp)
    have hy : In y := hl y (by rw [hx1]; simp)
    exact bo2_MOD hs hN hl40 h0 hr ha hF hx1 (tT (modC y)) (modX x y) ⟨#[]⟩ false (modC y) (fun W b h => rest_any x y b W h hx hy) (fun W => two_mod x y W hx hy)
  | 8, _, hs, hc =>
    have hb := has_bd (k := 0) hc
    obtain ⟨x, y, hx1⟩ := len2 (show (l.map asN).length = 2 by have h1 := hb.1; have h2 := hb.2; simp [loI, hiI] at h1 h2; simp; omega)
    have hx : In x := hl x (by rw [hx1]; simp)
    have hy : In y := hl y (by rw [hx1]; simp)
    by_cases h0s : y = 0
    · exact bo2_QUOT hs hN hl40 h0 hr ha hF hx1 4 0 ⟨#[]⟩ false 3 (fun W b h => quo_no x y b W h h0s) (fun W => two_quot_no x y W h0s)
    · exact bo2_QUOT hs hN hl40 h0 hr ha hF hx1 (tT (okC (quoOk (x.tdiv y)))) (okV (quoOk (x.tdiv y)) (x.tdiv y * 10000)) ⟨#[]⟩ false (okC (quoOk (x.tdiv y))) (fun W b h => quo_ok x y b W h hx hy h0s) (fun W => two_quot_ok x y W hx hy h0s)
  | 9, _, hs, hc =>
    have hb := has_bd (k := 0) hc
    obtain ⟨x, y, hx1⟩ := len2 (show (l.map asN).length = 2 by have h1 := hb.1; have h2 := hb.2; simp [loI, hiI] at h1 h2; simp; omega)
    have hx : In x := hl x (by rw [hx1]; simp)
    have hy : In y := hl y (by rw [hx1]; simp)
    cases hw : wholeOk y
    · exact bo2_POWER hs hN hl40 h0 hr ha hF hx1 4 0 ⟨#[]⟩ false 8 (fun W b h => power_no x y b W h hy hw) (fun W => two_power_no x y W hy hw)
    · have q := pow_plc x hw
      exact bo2_POWER hs hN hl40 h0 hr ha hF hx1 (tT (powC x (y.tdiv 10000))) (powX x (y.tdiv 10000)) ⟨#[]⟩ false (powC x (y.tdiv 10000)) (by rw [← q.1, ← q.2]; exact fun W b h => power_ok x y b W h hx hy hw) (fun W => two_power x y W hx hy hw)
  | 10, _, hs, hc =>
    have hb := has_bd (k := 0) hc
    obtain ⟨x, hx1⟩ := len1 (show (l.map asN).length = 1 by have h1 := hb.1; have h2 := hb.2; simp [loI, hiI] at h1 h2; simp; omega)
    have hx : In x := hl x (by rw [hx1]; simp)
    by_cases h0x : 0 ≤ x
    · exact bo1_SQRT hs hN hl40 h0 hr ha hF hx1 1 (rootX x) ⟨#[]⟩ false 0 (fun W b h => (root_ok x b W h hx h0x).mono fun e w' ⟨⟨he, _⟩, hb⟩ => ⟨he, hb⟩) (fun W => one_sqrt_ok x W hx h0x)
    · exact bo1_SQRT hs hN hl40 h0 hr ha hF hx1 4 0 ⟨#[]⟩ false 8 (fun W b h => root_no x b W h hx (by omega)) (fun W => one_sqrt_no x W hx (by omega))
  | 11, _, hs, hc =>
    have hb := has_bd (k := 0) hc
    cases hbr : (l.map asN).any brk
    · have q := gcdL_gU (l.map asN) hbr
      exact bom_GCD hs hN hl40 h0 hr ha hF 1 (gU (l.map asN) * 10000) ⟨#[]⟩ false 0 (by rw [← q]; exact fun W b h => gcd_ok W b _ _ h rfl hl (show (l.map asN).length ≤ 16 by have h2 := hb.2; simp [hiI] at h2; simp; omega) hbr) (fun W g cap hcap hg => many_gcd W g _ cap _ hg (List.length_map ..) hl (show l.length ≤ 16 by have h2 := hb.2; simp [hiI] at h2; omega) hcap hbr)
    · exact bom_GCD hs hN hl40 h0 hr ha hF 4 0 ⟨#[]⟩ false 8 (fun W b h => gcd_no W b _ _ h rfl hl (show (l.map asN).length ≤ 16 by have h2 := hb.2; simp [hiI] at h2; simp; omega) hbr) (fun W g cap hcap hg => many_no _ W g _ cap _ hg (List.length_map ..) hl (show l.length ≤ 16 by have h2 := hb.2; simp [hiI] at h2; omega) hcap hbr)
  | 12, _, hs, hc =>
    have hb := has_bd (k := 0) hc
    cases hbr : (l.map asN).any brk
    · cases hz : (l.map asN).any zro
      · have q := lcmV_W (l.map asN) hbr hz
        have q1 := fun W b h => lcm_ok W b _ _ h rfl hl (show (l.map asN).length ≤ 16 by have h2 := hb.2; simp [hiI] at h2; simp; omega) hbr hz
        have q2 := fun W g cap hcap hg => many_lcm W g _ cap _ hg (List.length_map ..) hl (show l.length ≤ 16 by have h2 := hb.2; simp [hiI] at h2; omega) hcap hbr hz
        cases hr2 : lcmF 10000 (l.map asN) with
        | none =>
          rw [← q] at q2
          rw [hr2] at q1 q2
          exact bom_LCM hs hN hl40 h0 hr ha hF 4 0 ⟨#[]⟩ false 2 q1 q2
        | some r =>
          rw [← q] at q2
          rw [hr2] at q1 q2
          exact bom_LCM hs hN hl40 h0 hr ha hF 1 (r) ⟨#[]⟩ false 0 q1 q2
      · exact bom_LCM hs hN hl40 h0 hr ha hF 1 (0) ⟨#[]⟩ false 0 (fun W b h => lcm_zero W b _ _ h rfl hl (show (l.map asN).length ≤ 16 by have h2 := hb.2; simp [hiI] at h2; simp; omega) hbr hz) (fun W g cap hcap hg => many_lcm0 W g _ cap _ hg (List.length_map ..) hl (show l.length ≤ 16 by have h2 := hb.2; simp [hiI] at h2; omega) hcap hbr hz)
    · exact bom_LCM hs hN hl40 h0 hr ha hF 4 0 ⟨#[]⟩ false 8 (fun W b h => lcm_no W b _ _ h rfl hl (show (l.map asN).length ≤ 16 by have h2 := hb.2; simp [hiI] at h2; simp; omega) hbr) (fun W g cap hcap hg => many_no _ W g _ cap _ hg (List.length_map ..) hl (show l.length ≤ 16 by have h2 := hb.2; simp [hiI] at h2; omega) hcap hbr)
  | 13, _, hs, hc =>
    have hb := has_bd (k := 0) hc
    obtain ⟨x, hx1⟩ := len1 (show (l.map asN).length = 1 by have h1 := hb.1; have h2 := hb.2; simp [loI, hiI] at h1 h2; simp; omega)
    have hx : In x := hl x (by rw [hx1]; simp)
    cases hw : wholeOk x
    · by_cases h0x : 0 ≤ x
      · exact bo1_FACT hs hN hl40 h0 hr ha hF hx1 4 0 ⟨#[]⟩ false 8 (fun W b h => fact_no x b W h hx hw) (fun W => one_fact_no x W hx h0x hw)
      · exact bo1_FACT hs hN hl40 h0 hr ha hF hx1 4 0 ⟨#[]⟩ false 8 (fun W b h => fact_no x b W h hx hw) (fun W => one_fact_neg x W (by omega))
    · by_cases h0x : 0 ≤ x
      · have q1 := fun W b h => fact_ok x b W h hx hw h0x
        have q2 := fun W => one_fact_ok x W hx hw h0x
        unfold factV at q1 q2
        by_cases h17 : x / 10000 ≤ 17
        · simp only [if_pos h17] at q1 q2
          exact bo1_FACT hs hN hl40 h0 hr ha hF hx1 1 ((fct (x / 10000).toNat : Int) * 10000) ⟨#[]⟩ false 0 q1 q2
        · simp only [if_neg h17] at q1 q2
          exact bo1_FACT hs hN hl40 h0 hr ha hF hx1 4 0 ⟨#[]⟩ false 2 q1 q2
      · exact bo1_FACT hs hN hl40 h0 hr ha hF hx1 4 0 ⟨#[]⟩ false 8 (fun W b h => fact_neg x b W h hx hw (by omega)) (fun W => one_fact_neg x W (by omega))
  | 14, _, hs, hc =>
    have hb := has_bd (k := 0) hc
    obtain ⟨x, y, z, hx1⟩ := len3 (show (l.map asN).length = 3 by have h1 := hb.1; have h2 := hb.2; simp [loI, hiI] at h1 h2; simp; omega)
    have hx : In x := hl x (by rw [hx1]; simp)
    have hy : In y := hl y (by rw [hx1]; simp)
    have hz : In z := hl z (by rw [hx1]; simp)
    have h3 : l.length = 3 := by have := congrArg List.length hx1; simpa using this
    subst hs
    by_cases hle : y ≤ z
    · have e : max y (min z x) = max y (min x z) := by rw [Int.min_comm]
      have hin : In (max y (min x z)) := by obtain ⟨a1, a2⟩ := hx; obtain ⟨a3, a4⟩ := hy; obtain ⟨a5, a6⟩ := hz; exact ⟨by omega, by omega⟩
      exact boc rfl hN hl40 h0 hr ha hF hx1 1 (max y (min x z)) ⟨#[]⟩ false 0 (by rw [← e]; exact fun W b q => clamp_ok x y z b W q hle hx hy hz) (fun w b o c x' hla HA hcc hE => d_clamp_ok _ w b o c x' l hla HA hcc hN hl40 h0 hE hr ha hF (nm_lf (by decide)) (nm_lf (by decide)) (nm_lt _) h3 x y z hx1 (by simpa using hle) (fun W => dnum_ok _ W hin))
    · exact boc rfl hN hl40 h0 hr ha hF hx1 4 0 ⟨#[]⟩ false 8 (fun W b q => clamp_no x y z b W q (by omega)) (fun w b o c x' hla HA hcc hE => d_clamp_no _ w b o c x' l hla HA hcc hN hl40 h0 hE hr ha hF (nm_lf (by decide)) (nm_lf (by decide)) (nm_lt _) h3 x y z hx1 (by simp; omega))
  | 15, _, hs, hc =>
    have hb := has_bd (k := 0) hc
    obtain ⟨x, hx1⟩ := len1 (show (l.map asN).length = 1 by have h1 := hb.1; have h2 := hb.2; simp [loI, hiI] at h1 h2; simp; omega)
    have hx : In x := hl x (by rw [hx1]; simp)
    cases hw : wholeOk x
    · exact bo1_ODD hs hN hl40 h0 hr ha hF hx1 4 0 ⟨#[]⟩ false 8 (fun W b h => odd_no x b W h hx hw) (fun W => one_odd_no x W hx hw)
    · exact bo1_ODD hs hN hl40 h0 hr ha hF hx1 3 0 ⟨#[]⟩ ((x.tdiv 10000).tmod 2 != 0) 0 (fun W b h => odd_ok x b W h hx hw) (fun W => one_odd_ok x W hx hw)
  | j + 16, h, _, _ => exact absurd h (by omega)
/-- Both Calls answer one value. -/
theorem call_both (s : ByteArray) (l : List Ag) (hN : Nums l) (hl40 : l.length ≤ 1099511627776) : ∃ (rt rn : Int) (rs : ByteArray) (rb : Bool) (rc : Int),
    (∀ (W : World) (v : Value) (x : Int), AV W v l → Calls Tryz.prog 4 #[.string s, v, .int .i64 x] W fun e w' => e = .returned (.agg #[.int .i64 rt, .int .i64 rn, .string rs, .bool rb, .int .i64 rc]) ∧ Below W.heap.size W w') ∧
    (∀ (W : World) (v : Value) (x : Int), AV W v l → Hid (∀ a ∈ l, EV W a) → Calls Tryz.prog 5 #[.string s, v, .int .i64 x] W fun e w' => e = .returned (.agg #[.int .i64 rt, .int .i64 rn, .string rs, .bool rb, .int .i64 rc]) ∧ Below W.heap.size W w') := by
  have hl : l.length ≤ 9223372036854775807 := by omega
  have hwh := wants_has s l.length
  by_cases h : nmI s < 16
  · rw [decide_eq_true h, Bool.true_and] at hwh
    cases hs : (hasB (loI (nmI s)) (hiI (nmI s)) (l.length : Int) && !l.any nosB)
    · exact ⟨4, 0, ⟨#[]⟩, false, 8, fun W v x hv => c_sing s W v x l hv hl hN h hs, fun W v x hv hE => d_ref s W v x l hv hN hl40 hE (show Hid _ from by rw [hwh]; exact hs)⟩
    · have hr : Hid ((hasB (wlI s) (whI s) (l.length : Int) && !l.any nosB) = true) := (show _ from by rw [hwh]; exact hs)
      have hs2 := hs
      simp only [Bool.and_eq_true, Bool.not_eq_true'] at hs2
      have hb := has_bd (k := 0) hs2.1
      have h0 : 0 < l.length := by
        have h1 := hb.1
        have h2 := lo_pos _ h
        omega
      have h16 : l.length ≤ 16 := by
        have h1 := hb.2
        have h2 := hi_le _ h
        omega
      cases ha : firstF l with
      | some a => exact ⟨a.t, a.n, a.s, a.b, a.c, fun W v x hv => c_fault s W v x l hv hl hN h hs a ha, fun W v x hv hE => d_fault s W v x l hv hN hl40 h0 hE hr a ha⟩
      | none =>
        by_cases hF : firstC l = 0
        · have hi : Ins (l.map asN) := by
            intro y hy
            obtain ⟨a, ha2, rfl⟩ := List.mem_map.1 hy
            exact asN_in (hN a ha2)
          obtain ⟨rt, rn, rs, rb, rc, h1, h2⟩ := bo_case s l hN hl40 h0 hr ha hF hi (nmI s) h (nm_at h) (by rw [List.length_map]; exact hs2.1)
          unfold CodC at h1
          rw [List.length_map] at h1
          refine ⟨rt, rn, rs, rb, rc, fun W v x hv => c_ans s W v x l hv hl hN h hs ha h0 h16 hF rt rn rs rb rc h1, fun W v x hv hE => ?_⟩
          obtain ⟨p, c, rfl, hc, hf⟩ := hv
          obtain ⟨b, o, rfl, hlt, HA⟩ := hf h0
          exact h2 W b o c x hlt HA hc hE
        · refine ⟨4, 0, ⟨#[]⟩, false, errC (firstC l), fun W v x hv => c_code s W v x l hv hl hN h hs ha h0 h16 hF, fun W v x hv hE => ?_⟩
          obtain ⟨p, c, rfl, hc, hf⟩ := hv
          obtain ⟨b, o, rfl, hlt, HA⟩ := hf h0
          exact d_code s W b o c x l hlt HA hc hN hl40 h0 hE hr ha hF
  · rw [decide_eq_false h, Bool.false_and] at hwh
    exact ⟨4, 0, ⟨#[]⟩, false, 8, fun W v x hv => c_no s W v x h, fun W v x hv hE => d_ref s W v x l hv hN hl40 hE (show Hid _ from by rw [hwh]; rfl)⟩
end Go.Proofs.YtfpbcokfianjaaaGreat
namespace Go.Proofs.YtfpbcokfianjaaaGreat
open Go.RowKit Go.ChangeShapes Go.WideShapes Go.ChangeAt
set_option linter.all false
namespace Oa
theorem i64_of {x : Int} (h : (Lit.int .i64 x).wf = true) : I64 x := by
  have : -9223372036854775808 ≤ x ∧ x ≤ 9223372036854775807 := by simpa [Lit.wf, IntKind.min, IntKind.max, IntKind.signed, IntKind.bits] using h
  exact this
theorem cV : Tryz.prog.cellsOf 26 = 5 := by kernel_rfl
theorem cT : Tryz.prog.cellsOf 23 = 1 := by kernel_rfl
theorem cI : Tryz.prog.cellsOf 2 = 1 := by kernel_rfl
theorem cN : Tryz.prog.cellsOf 3 = 1 := by kernel_rfl
theorem cS : Tryz.prog.cellsOf 9 = 1 := by kernel_rfl
theorem cC : Tryz.prog.cellsOf 24 = 1 := by kernel_rfl
theorem cB : Tryz.prog.cellsOf 4 = 1 := by kernel_rfl
theorem cR : Tryz.prog.cellsOf 51 = 4 := by kernel_rfl
theorem cL : Tryz.prog.cellsOf 88 = 2 := by kernel_rfl
theorem cE : Tryz.prog.cellsOf 90 = 7 := by kernel_rfl
theorem cA : Tryz.prog.cellsOf 54 = 11 := by kernel_rfl
theorem cM : Tryz.prog.cellsOf 52 = 1 := by kernel_rfl
theorem rowArgs : 22 < Tryz.prog.types.size := of_decide_eq_true (by kernel_rfl)
theorem list2 {α : Type} {l : List α} (h : l.length = 2) : ∃ a b, l = [a, b] := by
  match l, h with
  | [a, b], _ => exact ⟨a, b, rfl⟩
theorem list4 {α : Type} {l : List α} (h : l.length = 4) : ∃ a b c d, l = [a, b, c, d] := by
  match l, h with
  | [a, b, c, d], _ => exact ⟨a, b, c, d, rfl⟩
theorem list5 {α : Type} {l : List α} (h : l.length = 5) : ∃ a b c d e, l = [a, b, c, d, e] := by
  match l, h with
  | [a, b, c, d, e], _ => exact ⟨a, b, c, d, e, rfl⟩
theorem list7 {α : Type} {l : List α} (h : l.length = 7) : ∃ a b c d e f g, l = [a, b, c, d, e, f, g] := by
  match l, h with
  | [a, b, c, d, e, f, g], _ => exact ⟨a, b, c, d, e, f, g, rfl⟩
theorem list11 {α : Type} {l : List α} (h : l.length = 11) : ∃ a b c d e f g i j k m, l = [a, b, c, d, e, f, g, i, j, k, m] := by
  match l, h with
  | [a, b, c, d, e, f, g, i, j, k, m], _ => exact ⟨a, b, c, d, e, f, g, i, j, k, m, rfl⟩
section
variable {H : Type} {enc : TypeId × Value → H} {w : World} {base : Nat} {spare : Nat → Bool} {held : Bool} {r : Reach} {b0 : Nat}
set_option maxRecDepth 100000 in
theorem trod_val {n : Nat} {c0 c1 c2 c3 c4 : Value} {y : DataW H × List MemPlace} (h : DataW.trod enc Tryz.prog w base spare held n 26 [c0, c1, c2, c3, c4] = some y) : ∃ (t m : Int) (s : ByteArray) (b : Bool) (c : Int), c0 = .int .i64 t ∧ c1 = .int .i64 m ∧ c2 = .string s ∧ c3 = .bool b ∧ c4 = .int .i64 c ∧ I64 t ∧ I64 m ∧ I64 c := by
  obtain ⟨xs, nf, _, hx, hl, hlen, hf⟩ := DataW.trod_struct Tryz.underlying26 h
  obtain ⟨y0, y1, y2, y3, y4, rfl⟩ := list5 (show xs.length = 5 by simpa using hlen)
  have g0 : DataW.trod enc Tryz.prog w base spare held nf 23 [c0] = some y0 := by
    have q := hf 0 _ rfl
    simpa [cT] using q
  have g1 : DataW.trod enc Tryz.prog w base spare held nf 2 [c1] = some y1 := by
    have q := hf 1 _ rfl
    simpa [cI] using q
  have g2 : DataW.trod enc Tryz.prog w base spare held nf 9 [c2] = some y2 := by
    have q := hf 2 _ rfl
    simpa [cS] using q
  have g3 : DataW.trod enc Tryz.prog w base spare held nf 4 [c3] = some y3 := by
    have q := hf 3 _ rfl
    simpa [cB] using q
  have g4 : DataW.trod enc Tryz.prog w base spare held nf 24 [c4] = some y4 := by
    have q := hf 4 _ rfl
    simpa [cC] using q
  obtain ⟨t, e0, _, w0⟩ := DataW.trod_int Tryz.underlying23 g0
  obtain ⟨m, e1, _, w1⟩ := DataW.trod_int Tryz.underlying2 g1
  obtain ⟨s, e2, _, _⟩ := DataW.trod_string Tryz.underlying9 g2
  obtain ⟨b, e3, _⟩ := DataW.trod_bool Tryz.underlying4 g3
  obtain ⟨c, e4, _, w4⟩ := DataW.trod_int Tryz.underlying24 g4
  simp only [List.cons.injEq, and_true] at e0 e1 e2 e3 e4
  exact ⟨t, m, s, b, c, e0, e1, e2, e3, e4, i64_of w0, i64_of w1, i64_of w4⟩
set_option maxRecDepth 100000 in
theorem trod_rect {n : Nat} {c0 c1 c2 c3 : Value} {y : DataW H × List MemPlace} (h : DataW.trod enc Tryz.prog w base spare held n 51 [c0, c1, c2, c3] = some y) : ∃ r0 r1 r2 r3 : Int, c0 = .int .i64 r0 ∧ c1 = .int .i64 r1 ∧ c2 = .int .i64 r2 ∧ c3 = .int .i64 r3 ∧ I64 r0 ∧ I64 r1 ∧ I64 r2 ∧ I64 r3 := by
  obtain ⟨xs, nf, _, hx, hl, hlen, hf⟩ := DataW.trod_struct Tryz.underlying51 h
  obtain ⟨y0, y1, y2, y3, rfl⟩ := list4 (show xs.length = 4 by simpa using hlen)
  have g0 : DataW.trod enc Tryz.prog w base spare held nf 3 [c0] = some y0 := by
    have q := hf 0 _ rfl
    simpa [cN] using q
  have g1 : DataW.trod enc Tryz.prog w base spare held nf 3 [c1] = some y1 := by
    have q := hf 1 _ rfl
    simpa [cN] using q
  have g2 : DataW.trod enc Tryz.prog w base spare held nf 3 [c2] = some y2 := by
    have q := hf 2 _ rfl
    simpa [cN] using q
  have g3 : DataW.trod enc Tryz.prog w base spare held nf 3 [c3] = some y3 := by
    have q := hf 3 _ rfl
    simpa [cN] using q
  obtain ⟨a0, e0, _, w0⟩ := DataW.trod_int Tryz.underlying3 g0
  obtain ⟨a1, e1, _, w1⟩ := DataW.trod_int Tryz.underlying3 g1
  obtain ⟨a2, e2, _, w2⟩ := DataW.trod_int Tryz.underlying3 g2
  obtain ⟨a3, e3, _, w3⟩ := DataW.trod_int Tryz.underlying3 g3
  simp only [List.cons.injEq, and_true] at e0 e1 e2 e3
  exact ⟨a0, a1, a2, a3, e0, e1, e2, e3, i64_of w0, i64_of w1, i64_of w2, i64_of w3⟩
set_option maxRecDepth 100000 in
theorem trod_cell {n : Nat} {c0 c1 : Value} {y : DataW H × List MemPlace} (h : DataW.trod enc Tryz.prog w base spare held n 88 [c0, c1] = some y) : ∃ r0 r1 : Int, c0 = .int .i64 r0 ∧ c1 = .int .i64 r1 ∧ I64 r0 ∧ I64 r1 := by
  obtain ⟨xs, nf, _, hx, hl, hlen, hf⟩ := DataW.trod_struct Tryz.underlying88 h
  obtain ⟨y0, y1, rfl⟩ := list2 (show xs.length = 2 by simpa using hlen)
  have g0 : DataW.trod enc Tryz.prog w base spare held nf 3 [c0] = some y0 := by
    have q := hf 0 _ rfl
    simpa [cN] using q
  have g1 : DataW.trod enc Tryz.prog w base spare held nf 3 [c1] = some y1 := by
    have q := hf 1 _ rfl
    simpa [cN] using q
  obtain ⟨a0, e0, _, w0⟩ := DataW.trod_int Tryz.underlying3 g0
  obtain ⟨a1, e1, _, w1⟩ := DataW.trod_int Tryz.underlying3 g1
  simp only [List.cons.injEq, and_true] at e0 e1
  exact ⟨a0, a1, e0, e1, i64_of w0, i64_of w1⟩
/-- The numbers of an entry fit. -/
def EnW (x : En) : Prop := I64 x.r ∧ I64 x.k ∧ I64 x.t ∧ I64 x.n ∧ I64 x.c
set_option maxRecDepth 100000 in
theorem trod_ent {n : Nat} {cs : List Value} {y : DataW H × List MemPlace} (h : DataW.trod enc Tryz.prog w base spare held n 90 cs = some y) : ∃ x : En, cs = x.cells.toList ∧ EnW x ∧ 1 ≤ Rows.uptoBulk y.1 := by
  obtain ⟨xs, nf, _, hx, hl, hlen, hf⟩ := DataW.trod_struct Tryz.underlying90 h
  obtain ⟨c0, c1, c2, c3, c4, c5, c6, rfl⟩ := list7 (hl.trans cE)
  obtain ⟨y0, y1, rfl⟩ := list2 (show xs.length = 2 by simpa using hlen)
  have g0 : DataW.trod enc Tryz.prog w base spare held nf 88 [c0, c1] = some y0 := by
    have q := hf 0 _ rfl
    simpa [cL] using q
  have g1 : DataW.trod enc Tryz.prog w base spare held nf 26 [c2, c3, c4, c5, c6] = some y1 := by
    have q := hf 1 _ rfl
    simpa [cV] using q
  obtain ⟨r, k, rfl, rfl, w0, w1⟩ := trod_cell g0
  obtain ⟨t, m, s, b, c, rfl, rfl, rfl, rfl, rfl, w2, w3, w4⟩ := trod_val g1
  exact ⟨⟨r, k, t, m, s, b, c⟩, rfl, ⟨w0, w1, w2, w3, w4⟩, by rw [hx]; simp only [Rows.uptoBulk]; omega⟩
set_option maxRecDepth 100000 in
/-- A slice whose elements come in as x : α. -/
theorem open_list {α : Type} {cells : α → Array Value} {k : Nat} (hk : 0 < k) (x0 : α) {T E : TypeId} (hU : Tryz.prog.underlying T = some (.slice E)) (hcE : Tryz.prog.cellsOf E = k) {Q : α → DataW H → Prop}
    (elem : ∀ {n : Nat} {cs : List Value} {y : DataW H × List MemPlace}, DataW.trod enc Tryz.prog w base spare held n E cs = some y → ∃ x : α, cs = (cells x).toList ∧ Q x y.1)
    {fp : Option Addr} {fn fc : Nat} {fuel : Nat} {d : DataW H} {p : List MemPlace} (g : DataW.trod enc Tryz.prog w base spare held fuel T [.slice fp fn fc] = some (d, p)) :
    ∃ l : List α, View cells k w (.slice fp fn fc) l ∧ l.length = fn ∧ fn ≤ maxLen ∧ ((l = [] ∧ d = .nil) ∨ ∃ elems sp, elems.length = l.length ∧ (∀ (i : Nat) (x : α) (e : DataW H), l[i]? = some x → elems[i]? = some e → Q x e) ∧ d = .slice elems sp) := by
  rcases Go.Deep.open_slice hU g with ⟨h1, h2⟩ | ⟨a, len, cap, m, n, D, Pl, h1, hb, hlc, hcm, hm, h2, hel⟩
  · simp only [List.cons.injEq, Value.slice.injEq, and_true] at h1
    obtain ⟨rfl, rfl, rfl⟩ := h1
    exact ⟨[], ⟨none, 0, rfl, Nat.le_refl _, fun h => absurd h (by simp)⟩, rfl, Nat.zero_le _, .inl ⟨rfl, congrArg Prod.fst h2⟩⟩
  · simp only [List.cons.injEq, Value.slice.injEq, and_true] at h1
    obtain ⟨rfl, rfl, rfl⟩ := h1
    have hlm : fn ≤ m := by rw [hm]; split <;> omega
    have each : ∀ i, i < fn → ∃ x : α, Q x (D i) ∧ ∀ j, j < k → w.cell? ((a.add (i * k)).add j) = (cells x)[j]? := fun i hi => by
      obtain ⟨cs', hc, ht⟩ := hel i (by omega)
      rw [hcE] at hc
      obtain ⟨_, hl4, hcell⟩ := World.cells?_some hc
      obtain ⟨x, rfl, hQ⟩ := elem ht
      exact ⟨x, hQ, fun j hj => by rw [hcell j hj]; simp⟩
    have ha : 0 < fn → a = ⟨a.block, a.off, none⟩ ∧ a.block < w.heap.size := fun h0 => by
      obtain ⟨cs', hc, ht⟩ := hel 0 (by omega)
      rw [hcE] at hc
      obtain ⟨_, hl4, hcell⟩ := World.cells?_some hc
      have h3 := hcell 0 hk
      have hlt : 0 < cs'.length := by omega
      rw [List.getElem?_eq_getElem hlt] at h3
      rw [show (a.add (0 * k)).add 0 = a by simp [Addr.add]] at h3
      have hs := World.cell?_spot h3
      have h4 := World.block_lt_of_cell? w _ h3
      obtain ⟨b, o, s⟩ := a
      simp only at hs
      rw [hs]
      exact ⟨rfl, h4⟩
    classical
    have hex : ∀ i : Nat, ∃ x : α, i < fn → (Q x (D i) ∧ ∀ j, j < k → w.cell? ((a.add (i * k)).add j) = (cells x)[j]?) := fun i => by
      by_cases hi : i < fn
      · obtain ⟨x, hx⟩ := each i hi
        exact ⟨x, fun _ => hx⟩
      · exact ⟨x0, fun h => absurd h hi⟩
    let f : Nat → α := fun i => Classical.choose (hex i)
    have hf2 : ∀ i, i < fn → (Q (f i) (D i) ∧ ∀ j, j < k → w.cell? ((a.add (i * k)).add j) = (cells (f i))[j]?) := fun i => Classical.choose_spec (hex i)
    have hnl : ((List.range fn).map f).length = fn := by simp
    refine ⟨(List.range fn).map f, ⟨some a, fc, by rw [hnl], by rw [hnl]; exact hlc, fun h0 => ?_⟩, hnl, Nat.le_trans hlc hcm, .inr ⟨(List.range fn).map D, (List.range (m - fn)).map (fun j => D (fn + j)), by simp, fun i x e hi he => ?_, ?_⟩⟩
    · rw [hnl] at h0
      refine ⟨a.block, a.off, congrArg some (ha h0).1, (ha h0).2, fun i x hi j hj => ?_⟩
      have hil : i < fn := by have := (List.getElem?_eq_some_iff.1 hi).1; rwa [hnl] at this
      have e : x = f i := by
        rw [List.getElem?_map, List.getElem?_range hil] at hi
        simpa using hi.symm
      rw [e, ← (hf2 i hil).2 j hj]
      congr 1
      rw [Go.Deep.add_add, (ha h0).1]
      simp [Addr.add, Nat.add_assoc]
    · have hil : i < fn := by have := (List.getElem?_eq_some_iff.1 hi).1; rwa [hnl] at this
      rw [List.getElem?_map, List.getElem?_range hil] at hi he
      simp at hi he
      subst hi he
      exact (hf2 i hil).1
    · have h2' := congrArg Prod.fst h2
      simpa using h2'
theorem bulk_len : ∀ (es : List (DataW H)), (∀ e ∈ es, 1 ≤ Rows.uptoBulk e) → es.length ≤ Rows.uptoBulkAll es
  | [], _ => Nat.zero_le _
  | x :: r, h => by
    have h1 := bulk_len r (fun e he => h e (List.mem_cons_of_mem _ he))
    have h2 := h x (List.mem_cons_self ..)
    simp only [Rows.uptoBulkAll, List.length_cons]
    omega
/-- What is known of an argument and its entries. -/
def AgW (w : World) (p : Ag × List En) : Prop := (I64 p.1.t ∧ I64 p.1.n ∧ I64 p.1.c ∧ I64 p.1.r0 ∧ I64 p.1.r1 ∧ I64 p.1.r2 ∧ I64 p.1.r3) ∧ View En.cells 7 w (.slice p.1.ep p.1.en p.1.ec) p.2 ∧ p.2.length = p.1.en ∧ p.1.en ≤ maxLen ∧ ∀ x ∈ p.2, EnW x
theorem AgW.ev {w : World} {p : Ag × List En} (h : AgW w p) : EV w p.1 := ⟨p.2, h.2.1, fun x hx => (h.2.2.2.2 x hx).2.2.2.1, by have h1 := h.2.2.1; have h2 := h.2.2.2.1; unfold maxLen at h2; omega⟩
set_option maxRecDepth 100000 in
theorem trod_arg {n : Nat} {cs : List Value} {y : DataW H × List MemPlace} (h : DataW.trod enc Tryz.prog w base spare held n 54 cs = some y) : ∃ x : Ag × List En, cs = (Ag.cells x.1).toList ∧ AgW w x ∧ x.2.length + 1 ≤ Rows.uptoBulk y.1 := by
  obtain ⟨xs, nf, _, hx, hl, hlen, hf⟩ := DataW.trod_struct Tryz.underlying54 h
  obtain ⟨c0, c1, c2, c3, c4, c5, c6, c7, c8, c9, c10, rfl⟩ := list11 (hl.trans cA)
  obtain ⟨y0, y1, y2, y3, rfl⟩ := list4 (show xs.length = 4 by simpa using hlen)
  have g0 : DataW.trod enc Tryz.prog w base spare held nf 4 [c0] = some y0 := by
    have q := hf 0 _ rfl
    simpa [cB] using q
  have g1 : DataW.trod enc Tryz.prog w base spare held nf 26 [c1, c2, c3, c4, c5] = some y1 := by
    have q := hf 1 _ rfl
    simpa [cV] using q
  have g2 : DataW.trod enc Tryz.prog w base spare held nf 51 [c6, c7, c8, c9] = some y2 := by
    have q := hf 2 _ rfl
    simpa [cR] using q
  have g3 : DataW.trod enc Tryz.prog w base spare held nf 52 [c10] = some y3 := by
    have q := hf 3 _ rfl
    simpa [cM] using q
  obtain ⟨mb, e0, _⟩ := DataW.trod_bool Tryz.underlying4 g0
  simp only [List.cons.injEq, and_true] at e0
  subst e0
  obtain ⟨t, m, s, b, c, rfl, rfl, rfl, rfl, rfl, w2, w3, w4⟩ := trod_val g1
  obtain ⟨r0, r1, r2, r3, rfl, rfl, rfl, rfl, w5, w6, w7, w8⟩ := trod_rect g2
  have hsl : ∃ fp fn fc, c10 = .slice fp fn fc := by
    rcases Go.Deep.open_slice Tryz.underlying52 g3 with ⟨h1, _⟩ | ⟨a, len, cap, _, _, _, _, h1, _⟩
    · simp only [List.cons.injEq, and_true] at h1; exact ⟨_, _, _, h1⟩
    · simp only [List.cons.injEq, and_true] at h1; exact ⟨_, _, _, h1⟩
  obtain ⟨fp, fn, fc, rfl⟩ := hsl
  obtain ⟨es, hv, hln, hmx, hd⟩ := open_list (cells := En.cells) (k := 7) (by decide) ⟨0, 0, 0, 0, ⟨#[]⟩, false, 0⟩ Tryz.underlying52 cE (Q := fun x d => EnW x ∧ 1 ≤ Rows.uptoBulk d) (fun ht => by obtain ⟨x, e, h1, h2⟩ := trod_ent ht; exact ⟨x, e, h1, h2⟩) (show DataW.trod enc Tryz.prog w base spare held nf 52 [.slice fp fn fc] = some (y3.1, y3.2) from g3)
  have hEs : ∀ x ∈ es, EnW x := fun x hx => by
    rcases hd with ⟨rfl, _⟩ | ⟨elems, sp, hle, hq, _⟩
    · cases hx
    · obtain ⟨i, hi, rfl⟩ := List.getElem_of_mem hx
      exact (hq i _ _ (List.getElem?_eq_getElem hi) (List.getElem?_eq_getElem (by omega))).1
  refine ⟨(⟨mb, t, m, s, b, c, r0, r1, r2, r3, fp, fn, fc⟩, es), rfl, ⟨⟨w2, w3, w4, w5, w6, w7, w8⟩, hv, hln, hmx, hEs⟩, ?_⟩
  rw [hx]
  rcases hd with ⟨rfl, hn⟩ | ⟨elems, sp, hle, hq, hd⟩
  · simp only [Rows.uptoBulk, List.length_nil]; omega
  · have hb : es.length ≤ Rows.uptoBulkAll elems := by
      rw [← hle]
      refine bulk_len elems (fun e he => ?_)
      obtain ⟨i, hi, rfl⟩ := List.getElem_of_mem he
      exact (hq i _ _ (List.getElem?_eq_getElem (by omega)) (List.getElem?_eq_getElem hi)).2
    simp only [List.map_cons, List.map_nil, Rows.uptoBulk, Rows.uptoBulkAll, hd]
    omega
/-- How many entries there are, and arguments. -/
def tot (l : List (Ag × List En)) : Nat := (l.map (fun p => p.2.length + 1)).sum
theorem tot_bulk : ∀ (l : List (Ag × List En)) (es : List (DataW H)), es.length = l.length → (∀ (i : Nat) (x : Ag × List En) (e : DataW H), l[i]? = some x → es[i]? = some e → x.2.length + 1 ≤ Rows.uptoBulk e) → tot l ≤ Rows.uptoBulkAll es
  | [], es, h, _ => Nat.zero_le _
  | p :: l, [], h, _ => by cases h
  | p :: l, e :: es, h, hq => by
    have h1 := tot_bulk l es (by simpa using h) (fun i x e' hi he => hq (i + 1) x e' (by simpa using hi) (by simpa using he))
    have h2 := hq 0 p e rfl rfl
    simp only [tot, List.map_cons, List.sum_cons, Rows.uptoBulkAll] at h1 ⊢
    omega
set_option maxRecDepth 100000 in
theorem open_args {v : Value} {d : DataW H} {p : List MemPlace} (hv : Value.okWide Tryz.prog w r b0 22 v) (h : DataW.Trod enc Tryz.prog w base spare held 22 v d p) :
    ∃ l : List (Ag × List En), AV w v (l.map Prod.fst) ∧ (∀ x ∈ l, AgW w x) ∧ tot l ≤ Rows.uptoBulk d := by
  obtain ⟨fp, fn, fc, rfl⟩ := okWide_slice Tryz.underlying22 hv
  obtain ⟨fuel, hf⟩ := h
  obtain ⟨l, hv, hln, hmx, hd⟩ := open_list (cells := fun x : Ag × List En => Ag.cells x.1) (k := 11) (by decide) (⟨false, 0, 0, ⟨#[]⟩, false, 0, 0, 0, 0, 0, none, 0, 0⟩, []) Tryz.underlying22 cA (Q := fun x d => AgW w x ∧ x.2.length + 1 ≤ Rows.uptoBulk d) (fun ht => by obtain ⟨x, e, h1, h2⟩ := trod_arg ht; exact ⟨x, e, h1, h2⟩) (show DataW.trod enc Tryz.prog w base spare held fuel 22 [.slice fp fn fc] = some (d, p) from hf)
  refine ⟨l, ?_, fun x hx => ?_, ?_⟩
  · obtain ⟨p', c', e, hc, hf⟩ := hv
    refine ⟨p', c', by rw [List.length_map]; exact e, by rw [List.length_map]; exact hc, fun h0 => ?_⟩
    rw [List.length_map] at h0
    obtain ⟨b, o, e2, hlt, hcell⟩ := hf h0
    refine ⟨b, o, e2, hlt, fun i x hi j hj => ?_⟩
    rw [List.getElem?_map] at hi
    obtain ⟨y, hy, rfl⟩ := Option.map_eq_some_iff.1 hi
    exact hcell i y hy j hj
  · rcases hd with ⟨rfl, _⟩ | ⟨elems, sp, hle, hq, _⟩
    · cases hx
    · obtain ⟨i, hi, rfl⟩ := List.getElem_of_mem hx
      exact (hq i _ _ (List.getElem?_eq_getElem hi) (List.getElem?_eq_getElem (by omega))).1
  · rcases hd with ⟨rfl, _⟩ | ⟨elems, sp, hle, hq, rfl⟩
    · exact Nat.zero_le _
    · have := tot_bulk l elems hle (fun i x e hi he => (hq i x e hi he).2)
      simp only [Rows.uptoBulk]
      omega
end
theorem len_tot : ∀ (l : List (Ag × List En)), l.length ≤ tot l
  | [] => Nat.zero_le _
  | p :: l => by have := len_tot l; simp only [tot, List.map_cons, List.sum_cons, List.length_cons] at this ⊢; omega
theorem bulk_app {H : Type} (a b : List (DataW H)) : Rows.uptoBulkAll (a ++ b) = Rows.uptoBulkAll a + Rows.uptoBulkAll b := by
  induction a with
  | nil => simp [Rows.uptoBulkAll]
  | cons x r ih => simp only [List.cons_append, Rows.uptoBulkAll, ih]; omega
theorem bulk_at {H : Type} {d : DataW H} {a m : List (DataW H)} {K : Nat} (h : Rows.uptoBulkAll (a ++ d :: m) ≤ K) : Rows.uptoBulk d ≤ K := by
  rw [bulk_app] at h
  simp only [Rows.uptoBulkAll] at h
  omega
end Oa
end Go.Proofs.YtfpbcokfianjaaaGreat
