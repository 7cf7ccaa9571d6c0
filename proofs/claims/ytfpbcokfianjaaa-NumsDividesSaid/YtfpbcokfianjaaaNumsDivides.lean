/- NumsDivides: of any two numbers, taken as whole ones below 100000, the program's GCD and LCM divide and are divided as the law says, hang not on order or sign, and make the product: the law returns true, and its arguments read as before. No condition. -/
import Derived.Test.YtfpbcokfianjaaaNTq
namespace Go.Proofs.Ytfpbcokfianjaaa.numsDivides
open Go.RowKit Go.ChangeShapes Go.WideShapes Go.ChangeAt
set_option linter.all false
theorem tmod_small (a0 : Int) : -100000 < a0.tmod 100000 ∧ a0.tmod 100000 < 100000 := by
  have h := tmod_bd a0 100000 (by decide)
  constructor <;> omega
theorem law (a0 b0 : Int) (w : World) (ha : I64 a0) (hb : I64 b0) : Calls Try.prog 6 #[.int .i64 a0, .int .i64 b0] w fun e w' => e = .returned (.bool true) ∧ Below w.heap.size w w' := by
  obtain ⟨a1, a2⟩ := tmod_small a0
  obtain ⟨b1, b2⟩ := tmod_small b0
  generalize e1 : a0.tmod 100000 = a at a1 a2
  generalize e2 : b0.tmod 100000 = b at b1 b2
  have hg := gcdN_bd a1 a2 b1 b2
  have hl := lcmN_bd a1 a2 b1 b2
  have wr : ∀ x : Int, -1000000000000000 ≤ x → x ≤ 1000000000000000 → wrap64 x = x := fun x h1 h2 => by unfold wrap64; omega
  refine law0 a0 b0 a b (10000 * (Nat.gcd a.natAbs b.natAbs : Nat)) (lcmN a b) w e1 e2 (wr _ (by omega) (by omega)) (wr _ (by omega) (by omega)) (wr _ (by omega) (by omega)) (wr _ (by omega) (by omega)) (wr _ (by omega) (by omega)) (wr _ (by omega) (by omega)) (by omega) hl.1 (fun h => zero_way h) (fun h1 h2 => ?_) (fun W bl u v hnb hc => ?_) (fun W bl u v hnb hc => ?_)
  · obtain ⟨k1, k2, k3, k4, k5, k6, k7, k8⟩ := full_way h1 h2
    have hab : (a * b).natAbs ≤ 100000 * 100000 := by rw [Int.natAbs_mul]; exact Nat.mul_le_mul (by omega) (by omega)
    have hlc : ((Nat.lcm a.natAbs b.natAbs : Nat) : Int) ≤ 10000000000 := by
      have : lcmN a b = 10000 * (Nat.lcm a.natAbs b.natAbs : Nat) := if_neg (by omega)
      omega
    refine ⟨⟨k1, k2, k3, k4, k5⟩, _, _, k6, k7, wr _ (by omega) (by omega), wr _ (by omega) (by omega), wr _ ?_ ?_, wr _ (by omega) (by omega), wr _ (by omega) (by omega), k8⟩
    · rw [k8]; omega
    · rw [k8]; omega
  · rcases hc with ⟨rfl, rfl⟩ | ⟨rfl, rfl⟩
    · exact c_gcd a b W bl hnb a1 a2 b1 b2
    · have e3 : -(a * 10000) = (-a) * 10000 := by omega
      rw [e3] at hnb
      have q := c_gcd b (-a) W bl hnb b1 b2 (by omega) (by omega)
      rw [Int.natAbs_neg, Nat.gcd_comm] at q
      exact q
  · rcases hc with ⟨rfl, rfl⟩ | ⟨rfl, rfl⟩
    · exact c_lcm a b W bl hnb a1 a2 b1 b2
    · have e3 : -(b * 10000) = (-b) * 10000 := by omega
      rw [e3] at hnb
      have q := c_lcm (-b) a W bl hnb (by omega) (by omega) a1 a2
      rw [lcmN_swap] at q
      exact q

set_option maxRecDepth 100000 in
theorem lifted (os : Os) (started : os.Started) (H : Type) (enc : TypeId × Value → H) :
    ReturnsInHanded {} Try.checked os 6 .any (Rows.numsDividesSpec.pre6 enc Try.prog Try.f6 Rows.numsDividesRow.domain false) (Rows.numsDividesSpec.post enc Try.prog Try.f6 false true false false) := by
  refine returnsInHanded_of_change (C := Try.checked) own started (by kernel_rfl) Try.func6
    (ChangeSpec.witness6 (enc := enc) (C := Try.checked) false ⟨#[], #[.int .i64 0, .int .i64 0], []⟩ 8 (by kernel_rfl) (by kernel_rfl) (by kernel_rfl) (by kernel_rfl)) ?_
  intro W base args ds gs before hval0 hW _ _
  have hval : ∀ (j : Nat) t v, Try.f6.params[j]? = some t → args[j]? = some v → Value.okWide Try.prog W .any base t v := hval0
  have hW' := hW
  have hlt := hW.lt
  obtain ⟨p, q, hA0, hV, rfl, _, _⟩ := hW
  have hA : DataW.TrodAll enc Try.prog W 0 (fun _ => true) true Try.f6.params.toList args.toList ds p := hA0
  rw [Try.params6] at hA hval
  obtain ⟨v0, vs0, d0, ds0, p0, q0, hargs, rfl, rfl, h0, r0⟩ := trodAll_cons hA
  obtain ⟨v1, vs1, d1, ds1, p1, q1, rfl, rfl, rfl, h1, r1⟩ := trodAll_cons r0
  obtain ⟨rfl, rfl, rfl⟩ := trodAll_nil r1
  obtain rfl : args = #[v0, v1] := by cases args; simp_all
  obtain ⟨rfl, rfl⟩ := trodVars_none hV
  obtain ⟨x0, rfl, rfl, rfl, wx0⟩ := open_int Try.underlying2 (hval 0 2 v0 rfl rfl) h0
  obtain ⟨x1, rfl, rfl, rfl, wx1⟩ := open_int Try.underlying2 (hval 1 2 v1 rfl rfl) h1
  simp only [List.append_nil] at hW'
  refine (law x0 x1 W (i64_of wx0) (i64_of wx1)).mono fun e W' ⟨he, hb⟩ => ?_
  subst he
  exact ⟨_, rfl, _, _, _, [], [], [], hW', trodAll_mk1 (shut_bool Try.underlying4 _), (trodAll_cons_mk (shut_int Try.underlying2 wx0) (trodAll_cons_mk (shut_int Try.underlying2 wx1) trodAll_mk0)), rfl, hb.frame _, fun h => by cases h⟩

theorem holds : Rows.NumsDividesSaid :=
  OpenClaim.holds_of_wide 6 Try.f6 rfl rfl rfl rfl rfl rfl rfl ⟨rfl, rfl, rfl, rfl, rfl⟩ rfl rfl rfl rfl rfl (by kernel_rfl) Try.func6 (by kernel_rfl)
    (of_decide_eq_true (by kernel_rfl)) (by unfold Func.isWrapper; first | (rw [if_pos (by decide +kernel)]; kernel_rfl) | (rw [if_neg (by decide +kernel)]; exact ⟨rfl, rfl⟩))
    (fun os started H enc _ => lifted os started H enc)
end Go.Proofs.Ytfpbcokfianjaaa.numsDivides
namespace Go.Proofs.Ytfpbcokfianjaaa
theorem numsDivides_holds : Rows.NumsDividesSaid := numsDivides.holds
end Go.Proofs.Ytfpbcokfianjaaa
