/- The contract of the document's next: one more. New memory alone is made. · The contract of the document's less: one number less another one that is not above it. New memory alone is made. -/
import Derived.Test.YtfpbcokfianjaaaGreatQPwPMorePwPNext
namespace Go.Proofs.YtfpbcokfianjaaaGreat.Pw
open Go.Shelf Go.RowKit
set_option linter.all false
/-- What next holds behind i words. -/
structure Nxt (l o : List Nat) (i over : Nat) : Prop where
  len : o.length = i
  wds : Wds o
  ov : over ≤ 1
  val : wv o + 10000 ^ i * over = wv (l.take i) + 1
theorem Nxt.step {l o : List Nat} {i over : Nat} (h : Nxt l o i over) (hi : i < l.length) (hx : l[i] < 10000) : Nxt l (o ++ [(l[i] + over) % 10000]) (i + 1) ((l[i] + over) / 10000) := by
  have hv := h.val; have ho := h.ov; have hl := h.len
  refine ⟨by rw [List.length_append]; simp; omega, h.wds.snoc (Nat.mod_lt _ (by decide)), by omega, ?_⟩
  rw [wv_append, take_succ_wv l i hi, hl, Nat.pow_succ]
  simp only [wv, Nat.mul_zero, Nat.add_zero]
  generalize 10000 ^ i = P at *
  have e : P * (l[i] + over) = P * ((l[i] + over) % 10000) + P * 10000 * ((l[i] + over) / 10000) := by
    rw [Nat.mul_assoc, ← Nat.mul_add, Nat.mod_add_div]
  rw [Nat.mul_add] at e
  omega
set_option maxRecDepth 100000 in
set_option maxHeartbeats 1000000 in
theorem next_any (v : Value) (l : List Nat) (w : World) (h : IsW w v l) (wl : Wds l) (hl : l.length ≤ 2000) :
    Calls Tryz.prog 82 #[v] w fun e w' => ∃ (m : List Nat) (v' : Value), e = .returned v' ∧ IsW w' v' m ∧ Wds m ∧ Top m ∧ wv m = wv l + 1 ∧ Below w.heap.size w w' := by
  obtain ⟨i0, hi, hz0, hz1, hz2⟩ := info_parts infoInt
  obtain ⟨p, cap, rfl, _, hc⟩ := isW_at h
  have HI := Lib.hid hi
  have HZ0 := Lib.hid hz0
  have HZ1 := Lib.hid hz1
  have HZ2 := Lib.hid hz2
  have HC := Lib.hid hc
  have WL := Lib.hid wl
  clear hi hz0 hz1 hz2 h hc wl
  go_enter Tryz.func82, Tryz.ntmps82
  go_wp2
  go_loopw [3, 4, 5] (fun s o x wr => ∃ (i over : Nat) (r : List Nat), i ≤ l.length ∧ x = .int .i64 i ∧ o = .int .i64 over ∧ wr.ownsRow w.heap.size 3 1 s r.length (ints r) ∧ Nxt l r i over ∧ Below w.heap.size w wr) (fun _ _ x _ => l.length - (intOf x).toNat)
  case atStart => exact ⟨0, 1, [], Nat.zero_le _, rfl, rfl, World.ownsRow_nil _ _ _ _, ⟨rfl, fun x hx => by simp at hx, by decide, by simp [wv]⟩, Below.refl _ _⟩
  case round =>
    obtain ⟨i, over, r, hi, rfl, rfl, hown, hin, hB⟩ := hrel
    have HO := Lib.hid hown
    have HN := Lib.hid hin
    have hov := hin.ov
    have hrl := hin.len
    clear hown hin
    by_cases hlt : i < l.length
    · have hlt' : (i : Int) < l.length := by omega
      obtain ⟨g, rfl, hg, hci⟩ := HC.out i hlt
      have c1 := (hB.cell (p := ⟨g, i, none⟩) hg).trans hci
      have HW := Lib.hid (WL.out.getElem i hlt)
      have hxw := HW.out
      have ST := Lib.hid (HN.out.step hlt HW.out)
      clear hci
      generalize hx : l[i] = x at *
      obtain ⟨S, hS⟩ : ∃ S : Nat, S = x + over := ⟨_, rfl⟩
      rw [← hS] at ST
      have m0 : (x : Int) + (over : Int) = (S : Int) := by omega
      have hSb' : S ≤ 10000 := by omega
      have d1 : (S : Int).tmod 10000 = (S : Int) % 10000 := Int.tmod_eq_emod_of_nonneg (by omega)
      have x5 : ((S % 10000 : Nat) : Int) = (S : Int) % 10000 := by omega
      have HSB := Lib.hid (show S ≤ 10000 by omega)
      have hrl5 : r.length ≤ 2000 := by omega
      have HRL := Lib.hid hrl
      clear hS hrl
      go_wp2_with (at_builtin; refine wpList_append_own _ rfl _ _ 93 rfl w.heap.size 3 i0 (.int .i64 0) 1 8 Tryz.underlying93 HI.out HZ0.out HZ1.out HZ2.out rfl (by decide) _ _ _ rfl (HO.out.alloc _) ⟨wr.heap.size, 0, none⟩ 1 1 [.int .i64 ((S : Int) % 10000)] rfl rfl (app_c1g _ _ _) (app_c2 _) (by unfold maxLen; omega) (by omega) (by have := hB.size; simp; omega) ?_; intro v' w1 hown' hgrow _)
      have R := app_rel (x := S % 10000) hB HO.out (by rw [x5]; exact hown') hgrow
      clear hown' hgrow
      go_wp2
      go_roundw
      case rel => exact ⟨i + 1, S / 10000, r ++ [S % 10000], by omega, by go_num, congrArg (Value.int .i64) (by first | rfl | (have := HSB.out; unfold wrap64; omega) | omega), R.1, ST.out, R.2⟩
      case measure => simp [intOf]; omega
    · obtain rfl : i = l.length := by omega
      have hlt' : ¬ ((l.length : Nat) : Int) < l.length := by omega
      have hrl5 : r.length ≤ 2000 := by omega
      have HRL := Lib.hid hrl
      have HOV := Lib.hid hov
      clear hrl hov
      go_wp2_with (at_builtin; refine wpList_append_own _ rfl _ _ 93 rfl w.heap.size 3 i0 (.int .i64 0) 1 8 Tryz.underlying93 HI.out HZ0.out HZ1.out HZ2.out rfl (by decide) _ _ _ rfl (HO.out.alloc _) ⟨wr.heap.size, 0, none⟩ 1 1 [.int .i64 (over : Int)] rfl rfl (app_c1g _ _ _) (app_c2 _) (by unfold maxLen; omega) (by omega) (by have := hB.size; simp; omega) ?_; intro v' w1 hown' hgrow _)
      have R := app_rel (x := over) hB HO.out hown' hgrow
      have hI : IsW w1 v' (r ++ [over]) := IsW.of_own R.1
      have hWd : Wds (r ++ [over]) := HN.out.wds.snoc (by have := HOV.out; omega)
      have HI2 := Lib.hid hI
      have HWD := Lib.hid hWd
      have RB := R.2
      have HV := Lib.hid HN.out.val
      clear hown' hgrow R hI hWd
      go_wp2_with (go_at_call 106; refine (pcut_any _ (r ++ [over]) _ HI2.out HWD.out).mono ?_; rintro e w2 ⟨⟨m, v3, rfl, q1, q2, q3, q4, q5⟩, rfl⟩)
      go_ret
      exact ⟨m, v3, rfl, q1, q2, q3, by rw [q4, wv_append, HRL.out]; have := HV.out; rw [List.take_length] at this; simp [wv]; omega, RB⟩
end Go.Proofs.YtfpbcokfianjaaaGreat.Pw
namespace Go.Proofs.YtfpbcokfianjaaaGreat.Pw
open Go.Shelf Go.RowKit
set_option linter.all false
/-- A word, or nought behind the end. -/
def wat (l : List Nat) (i : Nat) : Nat := l.getD i 0
theorem wat_in (l : List Nat) (i : Nat) (h : i < l.length) : wat l i = l[i] := by unfold wat; simp [List.getD, List.getElem?_eq_getElem h]
theorem wat_out (l : List Nat) (i : Nat) (h : l.length ≤ i) : wat l i = 0 := by unfold wat; simp [List.getD, List.getElem?_eq_none h]
theorem take_succ_wat (l : List Nat) (i : Nat) : wv (l.take (i + 1)) = wv (l.take i) + 10000 ^ i * wat l i := by
  by_cases h : i < l.length
  · rw [take_succ_wv l i h, wat_in l i h]
  · rw [List.take_of_length_le (by omega), List.take_of_length_le (by omega)]; rw [wat_out l i (by omega)]; simp
/-- What less holds behind i words. -/
structure Lss (a b o : List Nat) (i under : Nat) : Prop where
  len : o.length = i
  wds : Wds o
  un : under ≤ 1
  val : wv (a.take i) + 10000 ^ i * under = wv o + wv (b.take i)
theorem Lss.ge {a b o : List Nat} {i under x : Nat} (h : Lss a b o i under) (hx : wat a i = x + under + wat b i) (hlt : x < 10000) : Lss a b (o ++ [x]) (i + 1) 0 := by
  have hv := h.val; have hl := h.len
  refine ⟨by rw [List.length_append]; simp; omega, h.wds.snoc hlt, by decide, ?_⟩
  rw [wv_append, take_succ_wat a i, take_succ_wat b i, hl, hx]
  simp only [wv, Nat.mul_zero, Nat.add_zero, Nat.mul_add]
  omega
theorem Lss.lt {a b o : List Nat} {i under x : Nat} (h : Lss a b o i under) (hx : wat a i + 10000 = x + under + wat b i) (hlt : x < 10000) : Lss a b (o ++ [x]) (i + 1) 1 := by
  have hv := h.val; have hl := h.len
  refine ⟨by rw [List.length_append]; simp; omega, h.wds.snoc hlt, by decide, ?_⟩
  rw [wv_append, take_succ_wat a i, take_succ_wat b i, hl, Nat.pow_succ]
  simp only [wv, Nat.mul_zero, Nat.add_zero, Nat.mul_one]
  generalize 10000 ^ i = P at *
  have e : P * (wat a i + 10000) = P * (x + under + wat b i) := by rw [hx]
  simp only [Nat.mul_add] at e
  omega
theorem Lss.done {a b o : List Nat} {under : Nat} (h : Lss a b o a.length under) (hlen : b.length ≤ a.length) (hle : wv b ≤ wv a) : wv o = wv a - wv b := by
  have hv := h.val
  rw [List.take_length, List.take_of_length_le hlen] at hv
  have ho := wv_lt o h.wds
  rw [h.len] at ho
  have hu := h.un
  by_cases h0 : under = 0
  · subst h0; omega
  · obtain rfl : under = 1 := by omega
    omega
set_option maxRecDepth 100000 in
set_option maxHeartbeats 1000000 in
theorem less_any (va vb : Value) (la lb : List Nat) (w : World) (ha : IsW w va la) (hb : IsW w vb lb) (wa : Wds la) (wb : Wds lb) (ta : Top la) (tb : Top lb) (hle : wv lb ≤ wv la) (hla : la.length ≤ 2000) :
    Calls Tryz.prog 108 #[va, vb] w fun e w' => ∃ (m : List Nat) (v' : Value), e = .returned v' ∧ IsW w' v' m ∧ Wds m ∧ Top m ∧ wv m = wv la - wv lb ∧ m.length ≤ la.length ∧ Below w.heap.size w w' := by
  have hlb : lb.length ≤ la.length := by
    apply Nat.le_of_not_lt
    intro k
    have := wv_len_lt wa tb k
    omega
  obtain ⟨i0, hi, hz0, hz1, hz2⟩ := info_parts infoInt
  obtain ⟨p, cap, rfl, _, hc⟩ := isW_at ha
  obtain ⟨p', cap', rfl, _, hc'⟩ := isW_at hb
  have HI := Lib.hid hi
  have HZ0 := Lib.hid hz0
  have HZ1 := Lib.hid hz1
  have HZ2 := Lib.hid hz2
  have HC := Lib.hid hc
  have HC' := Lib.hid hc'
  have WA := Lib.hid wa
  have WB := Lib.hid wb
  have HLE := Lib.hid hle
  clear hi hz0 hz1 hz2 ha hb hc hc' wa wb ta tb hle
  go_enter Tryz.func108, Tryz.ntmps108
  go_wp2
  go_loopw [5, 6, 7] (fun s o x wr => ∃ (i under : Nat) (r : List Nat), i ≤ la.length ∧ x = .int .i64 i ∧ o = .int .i64 under ∧ wr.ownsRow w.heap.size 3 1 s r.length (ints r) ∧ Lss la lb r i under ∧ Below w.heap.size w wr) (fun _ _ x _ => la.length - (intOf x).toNat)
  case atStart => exact ⟨0, 0, [], Nat.zero_le _, rfl, rfl, World.ownsRow_nil _ _ _ _, ⟨rfl, fun x hx => by simp at hx, by decide, by simp [wv]⟩, Below.refl _ _⟩
  case round =>
    obtain ⟨i, under, r, hi, rfl, rfl, hown, hin, hB⟩ := hrel
    have HO := Lib.hid hown
    have HN := Lib.hid hin
    have hun := hin.un
    have hrl := hin.len
    clear hown hin
    by_cases hlt : i < la.length
    · have hlt' : (i : Int) < la.length := by omega
      obtain ⟨g, rfl, hg, hci⟩ := HC.out i hlt
      have c1 := (hB.cell (p := ⟨g, i, none⟩) hg).trans hci
      have hxw := WA.out.getElem i hlt
      have hwa : wat la i = la[i] := wat_in la i hlt
      have HWA := Lib.hid hwa
      have hrl5 : r.length ≤ 2000 := by omega
      clear hci hwa
      generalize hx : la[i] = x at *
      have HXX := Lib.hid hx
      clear hx
      by_cases hkb : i < lb.length
      · have hkb' : (i : Int) < lb.length := by omega
        obtain ⟨g', rfl, hg', hcj⟩ := HC'.out i hkb
        have c2 := (hB.cell (p := ⟨g', i, none⟩) hg').trans hcj
        have hyw := WB.out.getElem i hkb
        have hwb : wat lb i = lb[i] := wat_in lb i hkb
        have HWB := Lib.hid hwb
        clear hcj hwb
        generalize hy : lb[i] = y at *
        have HYY := Lib.hid hy
        clear hy
        by_cases hq : under + y ≤ x
        · obtain ⟨D, hD⟩ : ∃ D : Nat, x = D + under + y := ⟨x - under - y, by omega⟩
          have m0 : (x : Int) - (under : Int) - (y : Int) = (D : Int) := by omega
          have hge : ¬ (D : Int) < 0 := by omega
          have T := Lib.hid (HN.out.ge (x := D) (by rw [HWA.out, HWB.out]; exact hD) (by omega))
          clear hD hq
          go_wp2_with (at_builtin; refine wpList_append_own _ rfl _ _ 93 rfl w.heap.size 3 i0 (.int .i64 0) 1 8 Tryz.underlying93 HI.out HZ0.out HZ1.out HZ2.out rfl (by decide) _ _ _ rfl (HO.out.alloc _) ⟨wr.heap.size, 0, none⟩ 1 1 [.int .i64 (D : Int)] rfl rfl (app_c1g _ _ _) (app_c2 _) (by unfold maxLen; omega) (by omega) (by have := hB.size; simp; omega) ?_; intro v' w1 hown' hgrow _)
          have R := app_rel (x := D) hB HO.out hown' hgrow
          clear hown' hgrow
          go_wp2
          go_roundw
          case rel => exact ⟨i + 1, 0, r ++ [D], by omega, by go_num, rfl, R.1, T.out, R.2⟩
          case measure => simp [intOf]; omega
        · obtain ⟨D, hD⟩ : ∃ D : Nat, x + 10000 = D + under + y := ⟨x + 10000 - under - y, by omega⟩
          have hge : (x : Int) - (under : Int) - (y : Int) < 0 := by omega
          have m0 : (x : Int) - (under : Int) - (y : Int) + 10000 = (D : Int) := by omega
          have T := Lib.hid (HN.out.lt (x := D) (by rw [HWA.out, HWB.out]; exact hD) (by omega))
          clear hD hq
          go_wp2_with (at_builtin; refine wpList_append_own _ rfl _ _ 93 rfl w.heap.size 3 i0 (.int .i64 0) 1 8 Tryz.underlying93 HI.out HZ0.out HZ1.out HZ2.out rfl (by decide) _ _ _ rfl (HO.out.alloc _) ⟨wr.heap.size, 0, none⟩ 1 1 [.int .i64 (D : Int)] rfl rfl (app_c1g _ _ _) (app_c2 _) (by unfold maxLen; omega) (by omega) (by have := hB.size; simp; omega) ?_; intro v' w1 hown' hgrow _)
          have R := app_rel (x := D) hB HO.out hown' hgrow
          clear hown' hgrow
          go_wp2
          go_roundw
          case rel => exact ⟨i + 1, 1, r ++ [D], by omega, by go_num, rfl, R.1, T.out, R.2⟩
          case measure => simp [intOf]; omega
      · have hkb' : ¬ (i : Int) < lb.length := by omega
        have hwb : wat lb i = 0 := wat_out lb i (by omega)
        have HWB := Lib.hid hwb
        clear hwb
        by_cases hq : under ≤ x
        · obtain ⟨D, hD⟩ : ∃ D : Nat, x = D + under := ⟨x - under, by omega⟩
          have m0 : (x : Int) - (under : Int) = (D : Int) := by omega
          have hge : ¬ (D : Int) < 0 := by omega
          have T := Lib.hid (HN.out.ge (x := D) (by rw [HWA.out, HWB.out]; omega) (by omega))
          clear hD hq
          go_wp2_with (at_builtin; refine wpList_append_own _ rfl _ _ 93 rfl w.heap.size 3 i0 (.int .i64 0) 1 8 Tryz.underlying93 HI.out HZ0.out HZ1.out HZ2.out rfl (by decide) _ _ _ rfl (HO.out.alloc _) ⟨wr.heap.size, 0, none⟩ 1 1 [.int .i64 (D : Int)] rfl rfl (app_c1g _ _ _) (app_c2 _) (by unfold maxLen; omega) (by omega) (by have := hB.size; simp; omega) ?_; intro v' w1 hown' hgrow _)
          have R := app_rel (x := D) hB HO.out hown' hgrow
          clear hown' hgrow
          go_wp2
          go_roundw
          case rel => exact ⟨i + 1, 0, r ++ [D], by omega, by go_num, rfl, R.1, T.out, R.2⟩
          case measure => simp [intOf]; omega
        · obtain ⟨D, hD⟩ : ∃ D : Nat, x + 10000 = D + under := ⟨x + 10000 - under, by omega⟩
          have hge : (x : Int) - (under : Int) < 0 := by omega
          have m0 : (x : Int) - (under : Int) + 10000 = (D : Int) := by omega
          have T := Lib.hid (HN.out.lt (x := D) (by rw [HWA.out, HWB.out]; omega) (by omega))
          clear hD hq
          go_wp2_with (at_builtin; refine wpList_append_own _ rfl _ _ 93 rfl w.heap.size 3 i0 (.int .i64 0) 1 8 Tryz.underlying93 HI.out HZ0.out HZ1.out HZ2.out rfl (by decide) _ _ _ rfl (HO.out.alloc _) ⟨wr.heap.size, 0, none⟩ 1 1 [.int .i64 (D : Int)] rfl rfl (app_c1g _ _ _) (app_c2 _) (by unfold maxLen; omega) (by omega) (by have := hB.size; simp; omega) ?_; intro v' w1 hown' hgrow _)
          have R := app_rel (x := D) hB HO.out hown' hgrow
          clear hown' hgrow
          go_wp2
          go_roundw
          case rel => exact ⟨i + 1, 1, r ++ [D], by omega, by go_num, rfl, R.1, T.out, R.2⟩
          case measure => simp [intOf]; omega
    · obtain rfl : i = la.length := by omega
      have hlt' : ¬ ((la.length : Nat) : Int) < la.length := by omega
      have hI : IsW wr u5 r := IsW.of_own HO.out
      have HI2 := Lib.hid hI
      clear hI
      go_wp2_with (go_at_call 106; refine (pcut_any _ r _ HI2.out HN.out.wds).mono ?_; rintro e w2 ⟨⟨m, v3, rfl, q1, q2, q3, q4, q5⟩, rfl⟩)
      go_ret
      exact ⟨m, v3, rfl, q1, q2, q3, by rw [q4]; exact HN.out.done hlb HLE.out, by omega, hB⟩
end Go.Proofs.YtfpbcokfianjaaaGreat.Pw
