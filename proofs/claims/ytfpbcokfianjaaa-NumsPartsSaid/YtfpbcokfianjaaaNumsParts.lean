/- NumsParts: of any two numbers within 2^62 the program's FLOOR, CEIL, TRUNC, CLAMP, QUOT and MOD stand around the first as the law says; of others the law says nothing: it returns true, and its arguments read as before. No condition. -/
import Derived.Test.YtfpbcokfianjaaaNTs
import Derived.Test.YtfpbcokfianjaaaNTs2
import Derived.Test.YtfpbcokfianjaaaNTt
import Derived.Test.YtfpbcokfianjaaaNTt2
import Derived.Test.YtfpbcokfianjaaaNTu
import Derived.Test.YtfpbcokfianjaaaNTo
namespace Go.Proofs.Ytfpbcokfianjaaa.numsParts
open Go.RowKit Go.ChangeShapes Go.WideShapes Go.ChangeAt
set_option linter.all false
theorem wr {a : Int} (h1 : -9223372036854775808 ≤ a) (h2 : a ≤ 9223372036854775807) : wrap64 a = a := by unfold wrap64; omega
theorem trunc_fp {x : Int} (h : 0 ≤ x) : x - x.tmod 10000 ≤ x ∧ x - (x - x.tmod 10000) < 10000 := by
  have := Int.tmod_nonneg 10000 h
  have h2 := tmod_bd x 10000 (by decide)
  omega
theorem trunc_fn {x : Int} (h : x < 0) : x ≤ x - x.tmod 10000 ∧ x - x.tmod 10000 - x < 10000 := by
  have e := Int.tmod_nonneg 10000 (show 0 ≤ -x by omega)
  rw [Int.neg_tmod] at e
  have h2 := tmod_bd x 10000 (by decide)
  omega
theorem trunc_z (x : Int) : (x - x.tmod 10000).tmod 10000 = 0 := by
  have q := Int.tmod_add_mul_tdiv x 10000
  rw [show x - x.tmod 10000 = 10000 * x.tdiv 10000 by omega]
  exact Int.mul_tmod_right _ _
theorem quo_y {x s : Int} (hx : 0 ≤ x) (hs : 0 < s) : x.tdiv s * s + x % s = x := by
  rw [Int.tdiv_eq_ediv_of_nonneg hx]; exact Int.ediv_mul_add_emod x s
theorem lawm (x s0 s : Int) (w : World) (hx : Mid x) (hs : Mid s) (h0 : 0 < s) (hs0 : Mid s0) (hz : s0 ≠ 0) (hss : (s0 < 0 ∧ s = -s0) ∨ (0 < s0 ∧ s0 = s)) : Calls Try.prog 5 #[.int .i64 x, .int .i64 s0] w fun e w' => e = .returned (.bool true) ∧ Below w.heap.size w w' := by
  obtain ⟨_, _, f1, f2⟩ := floor_f hx hs h0
  obtain ⟨_, _, c1, c2⟩ := ceil_f hx hs h0
  have hF : Hid _ := fun W bl h => q_floor x s W bl h hx hs h0
  have hC : Hid _ := fun W bl h => q_ceil x s W bl h hx hs h0
  have hT : Hid _ := fun W bl h => q_trunc x W bl h hx
  have hK : Hid _ := fun W bl h => q_clamp x (-s) s W bl h hx hs.neg hs (by omega)
  have hM : Hid _ := fun W bl h => q_mod x s W bl h hx hs h0
  have hQ0 := fun W bl h => q_quot x s W bl h hx hs h0
  obtain ⟨x1, x2⟩ := hx
  obtain ⟨s1, s2⟩ := hs
  obtain ⟨s3, s4⟩ := hs0
  have P1 : decide (x ≤ -4611686018427387904) = false := decide_eq_false (by omega)
  have P2 : decide (4611686018427387904 ≤ x) = false := decide_eq_false (by omega)
  have P3 : decide (s0 ≤ -4611686018427387904) = false := decide_eq_false (by omega)
  have P4 : decide (4611686018427387904 ≤ s0) = false := decide_eq_false (by omega)
  have P5 : (s0 == 0) = false := by simp; exact hz
  have D1 : decide (x < x - x % s) = false := decide_eq_false (by omega)
  have W1 : wrap64 (x - (x - x % s)) = x - (x - x % s) := wr (by omega) (by omega)
  have D2 : decide (s ≤ x - (x - x % s)) = false := decide_eq_false (by omega)
  have D3 : decide (x + -x % s < x) = false := decide_eq_false (by omega)
  have W2 : wrap64 (x + -x % s - x) = x + -x % s - x := wr (by omega) (by omega)
  have D4 : decide (s ≤ x + -x % s - x) = false := decide_eq_false (by omega)
  have W3 : wrap64 (-s) = -s := wr (by omega) (by omega)
  have D11 : decide (max (-s) (min s x) < -s) = false := decide_eq_false (by omega)
  have D12 : decide (s < max (-s) (min s x)) = false := decide_eq_false (by omega)
  have M1 : decide (0 ≤ x % s) = true := decide_eq_true (by omega)
  have M2 : decide (x % s < s) = true := decide_eq_true (by omega)
  have T0 := trunc_z x
  by_cases hp : 0 ≤ x
  · have X1 : decide (0 ≤ x) = true := decide_eq_true hp
    have X2 : decide (x < 0) = false := decide_eq_false (by omega)
    have tf := trunc_fp hp
    have W4 : wrap64 (x - (x - x.tmod 10000)) = x - (x - x.tmod 10000) := wr (by omega) (by omega)
    have X3 : decide (x < x - x.tmod 10000) = false := decide_eq_false (by omega)
    have X4 : decide (10000 ≤ x - (x - x.tmod 10000)) = false := decide_eq_false (by omega)
    have K1 : decide (-s ≤ x) = true := decide_eq_true (by omega)
    have qy := quo_y hp h0
    have q0 : 0 ≤ x.tdiv s := Int.tdiv_nonneg hp (by omega)
    have q9 : x.tdiv s ≤ x := by rw [Int.tdiv_eq_ediv_of_nonneg hp]; exact Int.ediv_le_self _ hp
    have q8 : x.tdiv s * s ≤ x := by omega
    have q7 : 0 ≤ x.tdiv s * s := Int.mul_nonneg q0 (by omega)
    have Q2 : (x.tdiv s * 10000).tdiv 10000 = x.tdiv s := Int.mul_tdiv_cancel _ (by decide)
    have Q3 : wrap64 (x.tdiv s) = x.tdiv s := wr (by omega) (by omega)
    have Q4 : wrap64 (x.tdiv s * s) = x.tdiv s * s := wr (by omega) (by omega)
    have Q5 : wrap64 (x.tdiv s * s + x % s) = x := by rw [qy]; exact wr (by omega) (by omega)
    cases hok : quoOk (x.tdiv s)
    · rw [hok] at hQ0
      have hQ : Hid _ := hQ0
      by_cases hi : x ≤ s
      · have K2 : decide (x ≤ s) = true := decide_eq_true hi
        have K3 : (max (-s) (min s x) != x) = false := by simp; omega
        rcases hss with ⟨g1, g2⟩ | ⟨g1, g2⟩
        · exact np_npin x s0 s _ _ _ _ _ _ _ _ 0 w (decide_eq_true g1) ((wr (by omega) (by omega)).trans g2.symm) P1 P2 P3 P4 P5 D1 W1 D2 D3 W2 D4 T0 W3 D11 D12 M1 M2 X1 X2 W4 X3 X4 K1 K2 K3 rfl hF hC hT hK hQ hM
        · exact np_ppin x s0 s _ _ _ _ _ _ _ _ 0 w (decide_eq_false (by omega)) g2 P1 P2 P3 P4 P5 D1 W1 D2 D3 W2 D4 T0 W3 D11 D12 M1 M2 X1 X2 W4 X3 X4 K1 K2 K3 rfl hF hC hT hK hQ hM
      · have K2 : decide (x ≤ s) = false := decide_eq_false hi
        rcases hss with ⟨g1, g2⟩ | ⟨g1, g2⟩
        · exact np_nphn x s0 s _ _ _ _ _ _ _ _ 0 w (decide_eq_true g1) ((wr (by omega) (by omega)).trans g2.symm) P1 P2 P3 P4 P5 D1 W1 D2 D3 W2 D4 T0 W3 D11 D12 M1 M2 X1 X2 W4 X3 X4 K1 K2 rfl hF hC hT hK hQ hM
        · exact np_pphn x s0 s _ _ _ _ _ _ _ _ 0 w (decide_eq_false (by omega)) g2 P1 P2 P3 P4 P5 D1 W1 D2 D3 W2 D4 T0 W3 D11 D12 M1 M2 X1 X2 W4 X3 X4 K1 K2 rfl hF hC hT hK hQ hM
    · rw [hok] at hQ0
      have hQ : Hid _ := hQ0
      by_cases hi : x ≤ s
      · have K2 : decide (x ≤ s) = true := decide_eq_true hi
        have K3 : (max (-s) (min s x) != x) = false := by simp; omega
        rcases hss with ⟨g1, g2⟩ | ⟨g1, g2⟩
        · exact np_npiy x s0 s _ _ _ _ _ 0 _ _ _ w (decide_eq_true g1) ((wr (by omega) (by omega)).trans g2.symm) P1 P2 P3 P4 P5 D1 W1 D2 D3 W2 D4 T0 W3 D11 D12 M1 M2 X1 X2 W4 X3 X4 K1 K2 K3 Q2 Q3 Q4 Q5 hF hC hT hK hQ hM
        · exact np_ppiy x s0 s _ _ _ _ _ 0 _ _ _ w (decide_eq_false (by omega)) g2 P1 P2 P3 P4 P5 D1 W1 D2 D3 W2 D4 T0 W3 D11 D12 M1 M2 X1 X2 W4 X3 X4 K1 K2 K3 Q2 Q3 Q4 Q5 hF hC hT hK hQ hM
      · have K2 : decide (x ≤ s) = false := decide_eq_false hi
        rcases hss with ⟨g1, g2⟩ | ⟨g1, g2⟩
        · exact np_nphy x s0 s _ _ _ _ _ 0 _ _ _ w (decide_eq_true g1) ((wr (by omega) (by omega)).trans g2.symm) P1 P2 P3 P4 P5 D1 W1 D2 D3 W2 D4 T0 W3 D11 D12 M1 M2 X1 X2 W4 X3 X4 K1 K2 Q2 Q3 Q4 Q5 hF hC hT hK hQ hM
        · exact np_pphy x s0 s _ _ _ _ _ 0 _ _ _ w (decide_eq_false (by omega)) g2 P1 P2 P3 P4 P5 D1 W1 D2 D3 W2 D4 T0 W3 D11 D12 M1 M2 X1 X2 W4 X3 X4 K1 K2 Q2 Q3 Q4 Q5 hF hC hT hK hQ hM
  · have X1 : decide (0 ≤ x) = false := decide_eq_false hp
    have X2 : decide (x < 0) = true := decide_eq_true (by omega)
    have tf := trunc_fn (show x < 0 by omega)
    have W4 : wrap64 (x - x.tmod 10000 - x) = x - x.tmod 10000 - x := wr (by omega) (by omega)
    have X3 : decide (x - x.tmod 10000 < x) = false := decide_eq_false (by omega)
    have X4 : decide (10000 ≤ x - x.tmod 10000 - x) = false := decide_eq_false (by omega)
    have hQ : Hid _ := hQ0
    by_cases hi : -s ≤ x
    · have K1 : decide (-s ≤ x) = true := decide_eq_true hi
      have K2 : decide (x ≤ s) = true := decide_eq_true (by omega)
      have K3 : (max (-s) (min s x) != x) = false := by simp; omega
      rcases hss with ⟨g1, g2⟩ | ⟨g1, g2⟩
      · exact np_nnix x s0 s _ _ _ _ _ _ _ _ 0 w (decide_eq_true g1) ((wr (by omega) (by omega)).trans g2.symm) P1 P2 P3 P4 P5 D1 W1 D2 D3 W2 D4 T0 W3 D11 D12 M1 M2 X1 X2 W4 X3 X4 K1 K2 K3 hF hC hT hK hQ hM
      · exact np_pnix x s0 s _ _ _ _ _ _ _ _ 0 w (decide_eq_false (by omega)) g2 P1 P2 P3 P4 P5 D1 W1 D2 D3 W2 D4 T0 W3 D11 D12 M1 M2 X1 X2 W4 X3 X4 K1 K2 K3 hF hC hT hK hQ hM
    · have K1 : decide (-s ≤ x) = false := decide_eq_false hi
      rcases hss with ⟨g1, g2⟩ | ⟨g1, g2⟩
      · exact np_nnlx x s0 s _ _ _ _ _ _ _ _ 0 w (decide_eq_true g1) ((wr (by omega) (by omega)).trans g2.symm) P1 P2 P3 P4 P5 D1 W1 D2 D3 W2 D4 T0 W3 D11 D12 M1 M2 X1 X2 W4 X3 X4 K1 hF hC hT hK hQ hM
      · exact np_pnlx x s0 s _ _ _ _ _ _ _ _ 0 w (decide_eq_false (by omega)) g2 P1 P2 P3 P4 P5 D1 W1 D2 D3 W2 D4 T0 W3 D11 D12 M1 M2 X1 X2 W4 X3 X4 K1 hF hC hT hK hQ hM
theorem law (x s : Int) (w : World) (hx : I64 x) (hs : I64 s) : Calls Try.prog 5 #[.int .i64 x, .int .i64 s] w fun e w' => e = .returned (.bool true) ∧ Below w.heap.size w w' := by
  by_cases p1 : x ≤ -4611686018427387904
  · exact np_out0 x s w p1
  by_cases p2 : 4611686018427387904 ≤ x
  · exact np_out1 x s w p1 p2
  by_cases p3 : s ≤ -4611686018427387904
  · exact np_out2 x s w p1 p2 p3
  by_cases p4 : 4611686018427387904 ≤ s
  · exact np_out3 x s w p1 p2 p3 p4
  by_cases p5 : s = 0
  · exact np_out4 x s w p1 p2 p3 p4 p5
  by_cases hn : s < 0
  · exact lawm x s (-s) w ⟨by omega, by omega⟩ ⟨by omega, by omega⟩ (by omega) ⟨by omega, by omega⟩ p5 (.inl ⟨hn, rfl⟩)
  · exact lawm x s s w ⟨by omega, by omega⟩ ⟨by omega, by omega⟩ (by omega) ⟨by omega, by omega⟩ p5 (.inr ⟨by omega, rfl⟩)

set_option maxRecDepth 100000 in
theorem lifted (os : Os) (started : os.Started) (H : Type) (enc : TypeId × Value → H) :
    ReturnsInHanded {} Try.checked os 5 .any (Rows.numsPartsSpec.pre6 enc Try.prog Try.f5 Rows.numsPartsRow.domain false) (Rows.numsPartsSpec.post enc Try.prog Try.f5 false true false false) := by
  refine returnsInHanded_of_change (C := Try.checked) own started (by kernel_rfl) Try.func5
    (ChangeSpec.witness6 (enc := enc) (C := Try.checked) false ⟨#[], #[.int .i64 0, .int .i64 0], []⟩ 8 (by kernel_rfl) (by kernel_rfl) (by kernel_rfl) (by kernel_rfl)) ?_
  intro W base args ds gs before hval0 hW _ _
  have hval : ∀ (j : Nat) t v, Try.f5.params[j]? = some t → args[j]? = some v → Value.okWide Try.prog W .any base t v := hval0
  have hW' := hW
  have hlt := hW.lt
  obtain ⟨p, q, hA0, hV, rfl, _, _⟩ := hW
  have hA : DataW.TrodAll enc Try.prog W 0 (fun _ => true) true Try.f5.params.toList args.toList ds p := hA0
  rw [Try.params5] at hA hval
  obtain ⟨v0, vs0, d0, ds0, p0, q0, hargs, rfl, rfl, h0, r0⟩ := trodAll_cons hA
  obtain ⟨v1, vs1, d1, ds1, p1, q1, rfl, rfl, rfl, h1, r1⟩ := trodAll_cons r0
  obtain ⟨rfl, rfl, rfl⟩ := trodAll_nil r1
  obtain rfl : args = #[v0, v1] := by cases args; simp_all
  obtain ⟨rfl, rfl⟩ := trodVars_none hV
  obtain ⟨x0, rfl, rfl, rfl, wx0⟩ := open_int Try.underlying2 (hval 0 2 v0 rfl rfl) h0
  obtain ⟨x1, rfl, rfl, rfl, wx1⟩ := open_int Try.underlying2 (hval 1 2 v1 rfl rfl) h1
  simp only [List.append_nil] at hW'
  refine (law x0 x1 W (i64_of wx0) (i64_of wx1)).mono fun e W' ⟨he, hb⟩ => ?_
  subst he
  exact ⟨_, rfl, _, _, _, [], [], [], hW', trodAll_mk1 (shut_bool Try.underlying4 _), (trodAll_cons_mk (shut_int Try.underlying2 wx0) (trodAll_cons_mk (shut_int Try.underlying2 wx1) trodAll_mk0)), rfl, hb.frame _, fun h => by cases h⟩

theorem holds : Rows.NumsPartsSaid :=
  OpenClaim.holds_of_wide 5 Try.f5 rfl rfl rfl rfl rfl rfl rfl ⟨rfl, rfl, rfl, rfl, rfl⟩ rfl rfl rfl rfl rfl (by kernel_rfl) Try.func5 (by kernel_rfl)
    (of_decide_eq_true (by kernel_rfl)) (by unfold Func.isWrapper; first | (rw [if_pos (by decide +kernel)]; kernel_rfl) | (rw [if_neg (by decide +kernel)]; exact ⟨rfl, rfl⟩))
    (fun os started H enc _ => lifted os started H enc)
end Go.Proofs.Ytfpbcokfianjaaa.numsParts
namespace Go.Proofs.Ytfpbcokfianjaaa
theorem numsParts_holds : Rows.NumsPartsSaid := numsParts.holds
end Go.Proofs.Ytfpbcokfianjaaa
