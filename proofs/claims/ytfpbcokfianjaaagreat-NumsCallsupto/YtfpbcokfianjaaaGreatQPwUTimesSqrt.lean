/- The contracts of dec's times and raise over numbers in words of 64 bits. New memory alone is made. · The contract of dec.Sqrt, of any int64: the root in parts, rounded. Nothing is written. -/
import Derived.Test.YtfpbcokfianjaaaGreatQPwUValPwUMem
import Derived.Test.YtfpbcokfianjaaaGreatQParseWQuot
namespace Go.Proofs.YtfpbcokfianjaaaGreat.Pw
open Go.Shelf Go.RowKit
set_option linter.all false
theorem app_c1 (wr : World) (x : Value) (T : TypeId) : ∀ (j : Nat) (u : Value), [x][j]? = some u → (wr.alloc (.cells #[x] T)).cell? ((⟨wr.heap.size, 0, none⟩ : Addr).add j) = some u := by
  intro j u hj
  match j, hj with
  | 0, hj => simp at hj; subst hj; simp [Addr.add]
theorem infoU : (Tryz.prog.info? 71).map (fun i => (i.zero, i.size, i.bytes)) = some (some (.int .u64 0), 1, 8) := by kernel_rfl
theorem uints_snoc (l : List Nat) (x : Nat) : uints l ++ [.int .u64 (x : Int)] = uints (l ++ [x]) := by unfold uints; simp
theorem IsU.of_own {w : World} {B : Nat} {v : Value} {l : List Nat} (h : w.ownsRow B 71 1 v l.length (uints l)) : IsU w v l := by
  refine ⟨h.1, ?_⟩
  rcases h.2 with h | ⟨g, cap, cur, a, b, c⟩
  · exact .inl h
  · exact .inr ⟨g, cap, cur, a, Nat.zero_le _, c⟩
theorem isU_at {w : World} {v : Value} {l : List Nat} (h : IsU w v l) : ∃ (p : Option Addr) (cap : Nat), v = .slice p l.length cap ∧ l.length ≤ cap ∧ ∀ i, (hi : i < l.length) → ∃ g, p = some ⟨g, 0, none⟩ ∧ g < w.heap.size ∧ w.cell? ⟨g, i, none⟩ = some (.int .u64 (l[i] : Nat)) := by
  rcases h.lies with ⟨rfl, rfl⟩ | ⟨g, cap, rfl, h1, _, hc⟩
  · exact ⟨none, 0, rfl, by simp, fun i hi => absurd hi (by simp)⟩
  · exact ⟨_, cap, rfl, h1, fun i hi => ⟨g, rfl, World.block_lt_of_cell? w ⟨g, i, none⟩ (hc i hi), hc i hi⟩⟩
theorem app_c2u (x : Int) : ∀ u, u ∈ [Value.int .u64 x] → u.oneCell' = true := by
  intro u hu; simp at hu; subst hu; rfl
theorem app_relu {w wr w1 : World} {v v' : Value} {l : List Nat} {x : Nat} {o : Obj} (hB : Below w.heap.size w wr) (ho : wr.ownsRow w.heap.size 71 1 v l.length (uints l)) (ho' : w1.ownsRow w.heap.size 71 1 v' (l.length + 1) (uints l ++ [.int .u64 (x : Int)])) (hg : (wr.alloc o).grownBy w1 v.ownBlock) :
    w1.ownsRow w.heap.size 71 1 v' (l ++ [x]).length (uints (l ++ [x])) ∧ Below w.heap.size w w1 := by
  refine ⟨by rw [← uints_snoc, List.length_append, List.length_singleton]; exact ho', ?_⟩
  exact Below.grown (hB.alloc hB.size o) hg (by have := hB.size; simp; omega) (fun k hk => (ho.lt k hk).1)
theorem utake_succ (l : List Nat) (k : Nat) (h : k < l.length) : uv (l.take (k + 1)) = uv (l.take k) + 18446744073709551616 ^ k * l[k] := by
  rw [List.take_succ, List.getElem?_eq_getElem h, uv_append, List.length_take, Nat.min_eq_left (by omega)]
  simp [uv]
/-- What times holds behind i words. -/
structure Tms (l o : List Nat) (b i c : Nat) : Prop where
  len : o.length = i
  wds : Uds o
  ca : c < 18446744073709551616
  val : uv o + 18446744073709551616 ^ i * c = uv (l.take i) * b
theorem Tms.step {l o : List Nat} {b i c hi lo lo' ov : Nat} (h : Tms l o b i c) (hl : i < l.length) (h1 : l[i] * b = hi * 18446744073709551616 + lo) (h2 : lo + c = lo' + ov * 18446744073709551616) (h3 : lo' < 18446744073709551616) (hw : l[i] < 18446744073709551616) (hb : b < 18446744073709551616) (hlo : lo < 18446744073709551616) (hov : ov ≤ 1) :
    Tms l (o ++ [lo']) b (i + 1) (hi + ov) ∧ hi + ov < 18446744073709551616 := by
  have hv := h.val; have hc := h.ca; have hle := h.len
  have hm : l[i] * b ≤ 18446744073709551615 * 18446744073709551615 := Nat.mul_le_mul (by omega) (by omega)
  have hlt : hi + ov < 18446744073709551616 := by omega
  refine ⟨⟨by rw [List.length_append]; simp; omega, h.wds.snoc h3, hlt, ?_⟩, hlt⟩
  rw [uv_append, utake_succ l i hl, hle, Nat.pow_succ, Nat.add_mul]
  simp only [uv, Nat.mul_zero, Nat.add_zero]
  generalize 18446744073709551616 ^ i = P at *
  have e1 : P * l[i] * b = P * (l[i] * b) := Nat.mul_assoc _ _ _
  have e2 : P * 18446744073709551616 * (hi + ov) = P * (18446744073709551616 * (hi + ov)) := Nat.mul_assoc _ _ _
  have e3 : P * (l[i] * b) + P * c = P * (lo' + 18446744073709551616 * (hi + ov)) := by rw [← Nat.mul_add]; congr 1; omega
  rw [Nat.mul_add] at e3
  omega
theorem Tms.done0 {l o : List Nat} {b : Nat} (h : Tms l o b l.length 0) (hl : Uop l) (h0 : l ≠ []) (hb : 1 ≤ b) : Uop o ∧ uv o = uv l * b := by
  have hv := h.val
  rw [List.take_length, Nat.mul_zero, Nat.add_zero] at hv
  refine ⟨fun ht => ?_, hv⟩
  have hge := uv_top l hl h0
  have hle : uv l * 1 ≤ uv l * b := Nat.mul_le_mul_left _ hb
  have hon : o ≠ [] := fun e => by rw [e] at ht; simp at ht
  obtain ⟨m, x, rfl⟩ : ∃ m x, o = m ++ [x] := ⟨o.dropLast, o.getLast hon, (List.dropLast_concat_getLast hon).symm⟩
  have hx : x = 0 := by simpa using ht
  have hlen := h.len
  rw [List.length_append, List.length_singleton] at hlen
  have hmw : Uds m := fun y hy => h.wds y (List.mem_append_left _ hy)
  have hlt := uv_lt m hmw
  rw [uv_append, hx] at hv
  simp only [uv, Nat.mul_zero, Nat.add_zero] at hv
  rw [show m.length = l.length - 1 by omega] at hlt
  omega
theorem Tms.done1 {l o : List Nat} {b c : Nat} (h : Tms l o b l.length c) (hc : c ≠ 0) : Uop (o ++ [c]) ∧ uv (o ++ [c]) = uv l * b := by
  have hv := h.val
  rw [List.take_length] at hv
  refine ⟨by unfold Uop; simp; exact hc, ?_⟩
  rw [uv_append, h.len]; simp only [uv, Nat.mul_zero, Nat.add_zero]; exact hv
theorem mul_words (x b : Nat) (hx : x < 18446744073709551616) (hb : b < 18446744073709551616) : ∃ hi lo : Nat, x * b = hi * 18446744073709551616 + lo ∧ lo < 18446744073709551616 ∧ hi < 18446744073709551616 ∧ MulIs x b hi lo := by
  have h := mul64_is (x : Int) (b : Int) (by omega) (by omega) (by omega) (by omega)
  have hm : x * b ≤ 18446744073709551615 * 18446744073709551615 := Nat.mul_le_mul (by omega) (by omega)
  rw [← Int.natCast_mul] at h
  refine ⟨x * b / 18446744073709551616, x * b % 18446744073709551616, by omega, by omega, by omega, ?_⟩
  rw [show ((x * b / 18446744073709551616 : Nat) : Int) = ((x * b : Nat) : Int) / 18446744073709551616 by omega, show ((x * b % 18446744073709551616 : Nat) : Int) = ((x * b : Nat) : Int) % 18446744073709551616 by omega]
  exact h
theorem add_words (lo c : Nat) (h1 : lo < 18446744073709551616) (h2 : c < 18446744073709551616) : ∃ lo' ov : Nat, lo + c = lo' + ov * 18446744073709551616 ∧ lo' < 18446744073709551616 ∧ ov ≤ 1 ∧ ∀ w : World, (callFunc 125 #[.int .u64 (lo : Int), .int .u64 (c : Int), .int .u64 0]).run Tryz.prog w = .ok (.value (.tuple #[.int .u64 (lo' : Int), .int .u64 (ov : Int)])) w := by
  refine ⟨(lo + c) % 18446744073709551616, (lo + c) / 18446744073709551616, by omega, by omega, by omega, fun w => ?_⟩
  exact add64_r _ _ _ _ (by omega) (by omega) (by omega) (by omega) (by omega) (by omega) w
set_option maxRecDepth 100000 in
set_option maxHeartbeats 2000000 in
theorem times_any (v : Value) (l : List Nat) (b : Nat) (w : World) (h : IsU w v l) (wl : Uds l) (tl : Uop l) (h0 : l ≠ []) (hb : 1 ≤ b) (hb64 : b < 18446744073709551616) (hlen : l.length ≤ 400) :
    Calls Tryz.prog 124 #[v, .int .u64 b] w fun e w' => ∃ (m : List Nat) (v' : Value), e = .returned v' ∧ IsU w' v' m ∧ Uds m ∧ Uop m ∧ uv m = uv l * b ∧ m.length ≤ l.length + 1 ∧ Below w.heap.size w w' := by
  obtain ⟨i0, hi, hz0, hz1, hz2⟩ := info_parts infoU
  obtain ⟨wm, hmk, hown, hgr⟩ := run_make_own (P := Tryz.prog) w w.heap.size 128 71 i0 (.int .u64 0) 1 Tryz.underlying128 hi hz0 hz1 .i64 .i64 (l.length + 1) (by rw [hz2]; omega) (by unfold maxLen; omega) (Nat.le_refl _)
  rw [show ((l.length + 1 : Nat) : Int) = (l.length : Int) + 1 by omega] at hmk
  have hB1 : Below w.heap.size w wm := ⟨hgr.os, hgr.tape, hgr.output, hgr.size, fun k hk => hgr.block k hk (by simp)⟩
  obtain ⟨p, cap, rfl, _, hc⟩ := isU_at h
  have HI := Lib.hid hi
  have HZ0 := Lib.hid hz0
  have HZ1 := Lib.hid hz1
  have HZ2 := Lib.hid hz2
  have HC := Lib.hid hc
  have HO0 := Lib.hid hown
  have WL := Lib.hid wl
  have TL := Lib.hid tl
  have H0 := Lib.hid h0
  have HBP := Lib.hid hb
  have HB64 := Lib.hid hb64
  clear hi hz0 hz1 hz2 h hc wl tl hown hgr h0 hb hb64
  go_enter Tryz.func124, Tryz.ntmps124
  go_wp2
  clear hmk
  go_loopw [5, 6, 18] (fun s y x wr => ∃ (i c : Nat) (o : List Nat), i ≤ l.length ∧ x = .int .i64 i ∧ y = .int .u64 c ∧ wr.ownsRow w.heap.size 71 1 s o.length (uints o) ∧ Tms l o b i c ∧ Below w.heap.size w wr) (fun _ _ x _ => l.length - (intOf x).toNat)
  case atStart => exact ⟨0, 0, [], Nat.zero_le _, rfl, rfl, HO0.out, ⟨rfl, fun x hx => by simp at hx, by decide, by simp [uv]⟩, hB1⟩
  case round =>
    obtain ⟨i, c, o, hi, rfl, rfl, hown, hin, hB⟩ := hrel
    have HO := Lib.hid hown
    have HN := Lib.hid hin
    have hol : o.length = i := hin.len
    clear hown hin
    by_cases hlt : i < l.length
    · have hlt' : (i : Int) < l.length := by omega
      obtain ⟨g, rfl, hg, hci⟩ := HC.out i hlt
      have c1 := (hB.cell (p := ⟨g, i, none⟩) hg).trans hci
      have HW := Lib.hid (WL.out.getElem i hlt)
      obtain ⟨hh, lo, q1, q2, q3, hM⟩ := mul_words l[i] b HW.out HB64.out
      obtain ⟨lo', ov, s1, s2, s3, hA⟩ := add_words lo c q2 HN.out.ca
      obtain ⟨T, hT⟩ := HN.out.step hlt q1 s1 s2 HW.out HB64.out q2 s3
      have HT := Lib.hid T
      have x9 : IntKind.u64.wrap ((hh : Int) + (ov : Int)) = ((hh + ov : Nat) : Int) := by rw [wrapU]; omega
      have HM := Lib.hid hM
      have hol5 : o.length ≤ 400 := by omega
      clear hci q1 q2 q3 s1 s2 s3 T hT hM
      generalize l[i] = x at *
      go_wp2_with (first | (go_at_call 115; refine (HM.out _).mono ?_; rintro e wr ⟨rfl, rfl⟩) | simp only [hA] | (at_builtin; refine wpList_append_own _ rfl _ _ 128 rfl w.heap.size 71 i0 (.int .u64 0) 1 8 Tryz.underlying128 HI.out HZ0.out HZ1.out HZ2.out rfl (by decide) _ _ _ rfl (HO.out.alloc _) ⟨wr.heap.size, 0, none⟩ 1 1 [.int .u64 (lo' : Int)] rfl rfl (app_c1 _ _ _) (app_c2u _) (by unfold maxLen; omega) (by omega) (by have := hB.size; simp; omega) ?_; intro v' w1 hown' hgrow _))
      have R := app_relu (x := lo') hB HO.out hown' hgrow
      clear hown' hgrow
      go_wp2
      go_roundw
      case rel => exact ⟨i + 1, hh + ov, o ++ [lo'], by omega, by go_num, rfl, R.1, HT.out, R.2⟩
      case measure => simp [intOf]; omega
    · obtain rfl : i = l.length := by omega
      have hlt' : ¬ ((l.length : Nat) : Int) < l.length := by omega
      have hol5 : o.length ≤ 400 := by omega
      by_cases hc0 : c = 0
      · have hq : ((c : Int) != 0) = false := by simp; exact hc0
        have HC0 := Lib.hid hc0
        clear hc0
        go_wp2
        go_ret
        have D := Tms.done0 (by have := HN.out; rw [HC0.out] at this; exact this) TL.out H0.out HBP.out
        exact ⟨o, _, rfl, IsU.of_own HO.out, HN.out.wds, D.1, D.2, by omega, hB⟩
      · have hq : ((c : Int) != 0) = true := by simp; exact hc0
        have D := HN.out.done1 hc0
        have HD := Lib.hid D
        clear hc0 D
        go_wp2_with (at_builtin; refine wpList_append_own _ rfl _ _ 128 rfl w.heap.size 71 i0 (.int .u64 0) 1 8 Tryz.underlying128 HI.out HZ0.out HZ1.out HZ2.out rfl (by decide) _ _ _ rfl (HO.out.alloc _) ⟨wr.heap.size, 0, none⟩ 1 1 [.int .u64 (c : Int)] rfl rfl (app_c1 _ _ _) (app_c2u _) (by unfold maxLen; omega) (by omega) (by have := hB.size; simp; omega) ?_; intro v' w1 hown' hgrow _)
        have R := app_relu (x := c) hB HO.out hown' hgrow
        clear hown' hgrow
        go_wp2
        go_ret
        exact ⟨o ++ [c], _, rfl, IsU.of_own R.1, HN.out.wds.snoc HN.out.ca, HD.out.1, HD.out.2, by rw [List.length_append]; simp; omega, R.2⟩
end Go.Proofs.YtfpbcokfianjaaaGreat.Pw
namespace Go.Proofs.YtfpbcokfianjaaaGreat
open Go.Shelf Go.RowKit
set_option linter.unusedVariables false
/-- The bit that is tried next, j to go. -/
def bt (j : Nat) : Nat := 2 ^ j / 2
theorem bt_zero : bt 0 = 0 := rfl
theorem bt_half (j : Nat) : bt (j + 1) / 2 = bt j := by unfold bt; rw [Nat.pow_succ, Nat.mul_div_cancel _ (by decide)]
theorem bt_pos (j : Nat) : 1 ≤ bt (j + 1) := by unfold bt; rw [Nat.pow_succ, Nat.mul_div_cancel _ (by decide)]; exact Nat.pow_pos (by decide)
theorem bt_two (j : Nat) : 2 ^ (j + 1) = bt (j + 1) + bt (j + 1) ∧ 2 ^ j = bt (j + 1) := by
  have : bt (j + 1) = 2 ^ j := by unfold bt; rw [Nat.pow_succ, Nat.mul_div_cancel _ (by decide)]
  rw [this, Nat.pow_succ]; omega
/-- What the search holds: r less a half is not above the root, r and 2^j more is. -/
structure RootInv (T : Int) (j : Nat) (r : Int) : Prop where
  r0 : 0 ≤ r
  lo : r = 0 ∨ (2 * r - 1) * (2 * r - 1) ≤ T
  hi : T < (2 * (r + (2 ^ j : Nat)) - 1) * (2 * (r + (2 ^ j : Nat)) - 1)
  top : r + (2 ^ j : Nat) ≤ 549755813888
theorem RootInv.take {T r : Int} {j : Nat} (h : RootInv T (j + 1) r) (hle : (2 * (r + (bt (j + 1) : Nat)) - 1) * (2 * (r + (bt (j + 1) : Nat)) - 1) ≤ T) : RootInv T j (r + (bt (j + 1) : Nat)) := by
  have hb := bt_two j
  have h1 := h.r0; have h2 := h.hi; have h3 := h.top
  have e : r + ((bt (j + 1) : Nat) : Int) + ((2 ^ j : Nat) : Int) = r + ((2 ^ (j + 1) : Nat) : Int) := by omega
  exact ⟨by omega, .inr hle, by rw [e]; exact h2, by rw [e]; exact h3⟩
theorem RootInv.leave {T r : Int} {j : Nat} (h : RootInv T (j + 1) r) (hlt : T < (2 * (r + (bt (j + 1) : Nat)) - 1) * (2 * (r + (bt (j + 1) : Nat)) - 1)) : RootInv T j r := by
  have hb := bt_two j
  have e : r + ((2 ^ j : Nat) : Int) = r + ((bt (j + 1) : Nat) : Int) := by omega
  exact ⟨h.r0, h.lo, by rw [e]; exact hlt, by have := h.top; omega⟩
theorem odd_sq (o : Int) (h0 : 0 ≤ o) (h1 : o < 18446744073709551616) : ∃ U V : Int, MulIs o o U V ∧ o * o = U * 18446744073709551616 + V ∧ 0 ≤ V ∧ V < 18446744073709551616 :=
  ⟨o * o / 18446744073709551616, o * o % 18446744073709551616, mul64_is o o h0 h1 h0 h1, by omega, by omega, by omega⟩
set_option maxRecDepth 10000 in
theorem sqrt_walk (x H L : Int) (w : World) (hx0 : 0 ≤ x) (hx1 : x ≤ 9223372036854775807) (eH : x * 40000 / 18446744073709551616 = H) (eL : x * 40000 % 18446744073709551616 = L) :
    Calls Tryz.prog 95 #[.int .i64 x] w fun e w' => (∃ r : Int, e = .returned (.tuple #[.int .i64 r, .int .i64 0]) ∧ RootInv (x * 40000) 0 r) ∧ w' = w := by
  have hs : sizeV x = x := sizeV_pos hx0
  have hM : MulIs x 40000 (x * 40000 / 18446744073709551616) (x * 40000 % 18446744073709551616) := mul64_is x 40000 hx0 (by omega) (by omega) (by omega)
  rw [eH, eL] at hM
  go_enter Tryz.func95, Tryz.ntmps95
  go_wp2_with (first | (go_at_call 109; refine (may_t _ _ (by omega)).mono ?_; rintro e w' ⟨rfl, rfl⟩) | (go_at_call 114; refine (size_any _ _ (by omega) (by omega)).mono ?_; rintro e w' ⟨rfl, rfl⟩) | (go_at_call 115; refine (hM _).mono ?_; rintro e w' ⟨rfl, rfl⟩))
  go_loop [6, 7] (fun a b => ∃ (j : Nat) (r : Int), j ≤ 39 ∧ b = .int .u64 (bt j : Nat) ∧ a = .int .u64 r ∧ RootInv (x * 40000) j r) (fun _ b => (intOf b).toNat)
  case atStart =>
    refine ⟨39, 0, by omega, rfl, rfl, by omega, .inl rfl, ?_, by decide⟩
    rw [show ((2 ^ 39 : Nat) : Int) = 549755813888 from rfl]
    omega
  case round =>
    obtain ⟨j, r, hj, rfl, rfl, hv⟩ := hrel
    have r0 := hv.r0
    have rt := hv.top
    cases j with
    | zero =>
      rw [bt_zero]
      have rt2 : r ≤ 549755813888 := by omega
      go_wp2_with (go_at_call 112; refine (signed_pos _ _ (by omega) (by omega)).mono ?_; rintro e w' ⟨rfl, rfl⟩)
      go_ret2
      exact ⟨⟨r, rfl, hv⟩, rfl⟩
    | succ j =>
      have hb1 := bt_pos j
      have hb2 := bt_two j
      have hb3 := bt_half j
      have hr39 : r + ((bt (j + 1) : Nat) : Int) ≤ 549755813888 := by omega
      obtain ⟨U, V, hm, hsq, hV0, hV1⟩ := odd_sq (2 * (r + ((bt (j + 1) : Nat) : Int)) - 1) (by omega) (by omega)
      have hT : x * 40000 = H * 18446744073709551616 + L := by omega
      have hL0 : 0 ≤ L := by omega
      have hL1 : L < 18446744073709551616 := by omega
      have HB := Lib.hid hb3
      clear hb2 hb3
      by_cases hc1 : U < H
      · have HV := Lib.hid (hv.take (by rw [hsq, hT]; omega))
        clear hsq hT hv
        go_wp2_with (go_at_call 115; refine (hm _).mono ?_; rintro e w' ⟨rfl, rfl⟩)
        go_round
        case rel => exact ⟨j, _, by omega, by rw [← HB.out]; go_num, rfl, HV.out⟩
        case measure => simp [intOf]; omega
      by_cases hc2 : U = H
      · by_cases hc3 : V ≤ L
        · have HV := Lib.hid (hv.take (by rw [hsq, hT]; omega))
          clear hsq hT hv
          subst hc2
          have t1 : decide (U < U) = false := decide_eq_false (by omega)
          have t2 : (U == U) = true := by simp
          go_wp2_with (go_at_call 115; refine (hm _).mono ?_; rintro e w' ⟨rfl, rfl⟩)
          go_round
          case rel => exact ⟨j, _, by omega, by rw [← HB.out]; go_num, rfl, HV.out⟩
          case measure => simp [intOf]; omega
        · have HV := Lib.hid (hv.leave (by rw [hsq, hT]; omega))
          clear hsq hT hv
          subst hc2
          have t1 : decide (U < U) = false := decide_eq_false (by omega)
          have t2 : (U == U) = true := by simp
          go_wp2_with (go_at_call 115; refine (hm _).mono ?_; rintro e w' ⟨rfl, rfl⟩)
          go_round
          case rel => exact ⟨j, _, by omega, by rw [← HB.out]; go_num, rfl, HV.out⟩
          case measure => simp [intOf]; omega
      · have HV := Lib.hid (hv.leave (by rw [hsq, hT]; omega))
        clear hsq hT hv
        have t2 : (U == H) = false := by rw [beq_eq_false_iff_ne]; exact hc2
        go_wp2_with (go_at_call 115; refine (hm _).mono ?_; rintro e w' ⟨rfl, rfl⟩)
        go_round
        case rel => exact ⟨j, _, by omega, by rw [← HB.out]; go_num, rfl, HV.out⟩
        case measure => simp [intOf]; omega
theorem sqrt_ok (x : Int) (w : World) (hx0 : 0 ≤ x) (hx1 : x ≤ 9223372036854775807) : Calls Tryz.prog 95 #[.int .i64 x] w fun e w' => (∃ r : Int, e = .returned (.tuple #[.int .i64 r, .int .i64 0]) ∧ RootInv (x * 40000) 0 r) ∧ w' = w := sqrt_walk x _ _ w hx0 hx1 rfl rfl
theorem sqrt_neg (x : Int) (w : World) (hx : -9223372036854775807 ≤ x) (hx0 : x < 0) : Calls Tryz.prog 95 #[.int .i64 x] w fun e w' => e = .returned (.tuple #[.int .i64 0, .int .i64 8]) ∧ w' = w := by
  go_enter Tryz.func95, Tryz.ntmps95
  go_wp2_with (go_at_call 109; refine (may_t _ _ (by omega)).mono ?_; rintro e w' ⟨rfl, rfl⟩)
  go_ret2
  exact ⟨rfl, rfl⟩
end Go.Proofs.YtfpbcokfianjaaaGreat
