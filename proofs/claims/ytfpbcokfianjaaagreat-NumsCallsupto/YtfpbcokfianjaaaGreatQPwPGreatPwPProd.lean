/- The contract of the document's great: a number in words of four digits. New memory alone is made. · The contract of the document's product of two numbers in words of four digits. New memory alone is made. The condition: the two have no more than 4000 words together. -/
import Derived.Test.YtfpbcokfianjaaaGreatQPwPValPwPMem
import Derived.OwnWalk
namespace Go.Proofs.YtfpbcokfianjaaaGreat.Pw
open Go.Shelf Go.RowKit
set_option linter.all false
theorem infoInt : (Tryz.prog.info? 3).map (fun i => (i.zero, i.size, i.bytes)) = some (some (.int .i64 0), 1, 8) := by kernel_rfl
theorem ints_snoc (l : List Nat) (x : Nat) : ints l ++ [.int .i64 (x : Int)] = ints (l ++ [x]) := by unfold ints; simp
theorem pow_len {N m k : Nat} (h : 10000 ^ k * m ≤ N) (hm : 1 ≤ m) (hN : N < 18446744073709551616) : k ≤ 4 := by
  apply Nat.le_of_not_lt
  intro hk
  have h1 : 10000 ^ 5 ≤ 10000 ^ k := Nat.pow_le_pow_right (by decide) hk
  have h2 : 10000 ^ k * 1 ≤ 10000 ^ k * m := Nat.mul_le_mul_left _ hm
  have h3 : (10000 : Nat) ^ 5 = 100000000000000000000 := by decide
  omega
theorem wv_snoc (l : List Nat) (m : Nat) : wv (l ++ [m % 10000]) + 10000 ^ (l ++ [m % 10000]).length * (m / 10000) = wv l + 10000 ^ l.length * m := by
  rw [wv_append, List.length_append, List.length_singleton, Nat.pow_succ]
  simp only [wv, Nat.mul_zero, Nat.add_zero]
  have h : 10000 ^ l.length * m = 10000 ^ l.length * (m % 10000) + 10000 ^ l.length * 10000 * (m / 10000) := by
    rw [Nat.mul_assoc, ← Nat.mul_add, Nat.mod_add_div]
  omega
theorem IsW.of_own {w : World} {B : Nat} {v : Value} {l : List Nat} (h : w.ownsRow B 3 1 v l.length (ints l)) : IsW w v l := by
  refine ⟨h.1, ?_⟩
  rcases h.2 with h | ⟨g, cap, cur, a, b, c⟩
  · exact .inl h
  · exact .inr ⟨g, cap, cur, a, Nat.zero_le _, c⟩
theorem app_c1g (wr : World) (x : Value) (T : TypeId) : ∀ (j : Nat) (u : Value), [x][j]? = some u → (wr.alloc (.cells #[x] T)).cell? ((⟨wr.heap.size, 0, none⟩ : Addr).add j) = some u := by
  intro j u hj
  match j, hj with
  | 0, hj => simp at hj; subst hj; simp [Addr.add]
theorem app_c2 (x : Int) : ∀ u, u ∈ [Value.int .i64 x] → u.oneCell' = true := by
  intro u hu; simp at hu; subst hu; rfl
/-- What an append of one word leaves. -/
theorem app_rel {w wr w1 : World} {v v' : Value} {l : List Nat} {x : Nat} {o : Obj} (hB : Below w.heap.size w wr) (ho : wr.ownsRow w.heap.size 3 1 v l.length (ints l)) (ho' : w1.ownsRow w.heap.size 3 1 v' (l.length + 1) (ints l ++ [.int .i64 (x : Int)])) (hg : (wr.alloc o).grownBy w1 v.ownBlock) :
    w1.ownsRow w.heap.size 3 1 v' (l ++ [x]).length (ints (l ++ [x])) ∧ Below w.heap.size w w1 := by
  refine ⟨by rw [← ints_snoc, List.length_append, List.length_singleton]; exact ho', ?_⟩
  exact Below.grown (hB.alloc hB.size o) hg (by have := hB.size; simp; omega) (fun k hk => (ho.lt k hk).1)
theorem Top.snoc (l : List Nat) (x : Nat) (h : x ≠ 0) : Top (l ++ [x]) := by unfold Top; simp; exact h
set_option maxRecDepth 100000 in
set_option maxHeartbeats 1000000 in
theorem great_any (N : Nat) (w : World) (hN : N < 18446744073709551616) : Calls Tryz.prog 75 #[.int .u64 N] w fun e w' => ∃ (l : List Nat) (v : Value), e = .returned v ∧ IsW w' v l ∧ Wds l ∧ Top l ∧ wv l = N ∧ l.length ≤ 5 ∧ Below w.heap.size w w' := by
  obtain ⟨i0, hi, hz0, hz1, hz2⟩ := info_parts infoInt
  have HI := Lib.hid hi
  have HZ0 := Lib.hid hz0
  have HZ1 := Lib.hid hz1
  have HZ2 := Lib.hid hz2
  clear hi hz0 hz1 hz2
  go_enter Tryz.func75, Tryz.ntmps75
  go_wp2
  go_loopw [0, 3] (fun x v wr => ∃ (m : Nat) (l : List Nat), x = .int .u64 m ∧ wr.ownsRow w.heap.size 3 1 v l.length (ints l) ∧ Wds l ∧ N = wv l + 10000 ^ l.length * m ∧ l.length ≤ 5 ∧ (m = 0 → Top l) ∧ Below w.heap.size w wr) (fun x _ _ => (intOf x).toNat)
  case atStart => exact ⟨N, [], rfl, World.ownsRow_nil _ _ _ _, fun x hx => by simp at hx, by simp [wv], by simp, fun _ => Top.nil, Below.refl _ _⟩
  case round =>
    obtain ⟨m, l, rfl, hown, hw, hv, hl, ht, hB⟩ := hrel
    by_cases h0 : m = 0
    · have HO := Lib.hid hown
      have HT := Lib.hid (ht h0)
      have HV := Lib.hid hv
      have HW := Lib.hid hw
      have h0' : ¬ (0 : Int) < (m : Int) := by omega
      have H0 := Lib.hid h0
      clear hown ht hv hw h0
      go_wp2
      go_ret
      exact ⟨l, _, rfl, IsW.of_own HO.out, HW.out, HT.out, by rw [HV.out, H0.out]; simp, hl, hB⟩
    · have h0' : (0 : Int) < (m : Int) := by omega
      have hm64 : m ≤ N := by
        have : 1 * m ≤ 10000 ^ l.length * m := Nat.mul_le_mul_right _ (Nat.pow_pos (by decide)); omega
      have hm64' : (m : Int) < 18446744073709551616 := by omega
      have hl4 := pow_len (N := N) (m := m) (k := l.length) (by omega) (by omega) hN
      have HO := Lib.hid hown
      have HT := Lib.hid ht
      have HV := Lib.hid hv
      have HW := Lib.hid hw
      have H0 := Lib.hid h0
      clear ht hv hw h0 hown
      have x1 : (m : Int).tmod 10000 = (m : Int) % 10000 := Int.tmod_eq_emod_of_nonneg (by omega)
      have x2 : IntKind.i64.wrap ((m : Int) % 10000) = (m : Int) % 10000 := by rw [IntKind.wrap_i64]; omega
      have x3 : IntKind.u64.wrap ((m : Int) / 10000) = (m : Int) / 10000 := by rw [wrapU]; omega
      have x4 : (m : Int).tdiv 10000 = (m : Int) / 10000 := Int.tdiv_eq_ediv_of_nonneg (by omega)
      have x5 : ((m % 10000 : Nat) : Int) = (m : Int) % 10000 := by omega
      clear hm64'
      go_wp2_with (at_builtin; refine wpList_append_own _ rfl _ _ 93 rfl w.heap.size 3 i0 (.int .i64 0) 1 8 Tryz.underlying93 HI.out HZ0.out HZ1.out HZ2.out rfl (by decide) _ _ _ rfl (HO.out.alloc _) ⟨wr.heap.size, 0, none⟩ 1 1 [.int .i64 ((m : Int) % 10000)] rfl rfl (app_c1g _ _ _) (app_c2 _) (by unfold maxLen; omega) (by omega) (by have := hB.size; simp; omega) ?_; intro v' w1 hown' hgrow _)
      have R := app_rel (x := m % 10000) hB HO.out (by rw [x5]; exact hown') hgrow
      clear hown' hgrow
      go_wp2
      go_roundw
      case rel =>
        have hv := HV.out
        have hs := wv_snoc l m
        exact ⟨m / 10000, l ++ [m % 10000], by go_num, R.1, HW.out.snoc (by omega), by omega, by simp; omega, fun k => Top.snoc l _ (by have := H0.out; omega), R.2⟩
      case measure => simp [intOf]; have := H0.out; omega
end Go.Proofs.YtfpbcokfianjaaaGreat.Pw
namespace Go.Proofs.YtfpbcokfianjaaaGreat.Pw
open Go.Shelf Go.RowKit
set_option linter.all false
theorem ints_set (l : List Nat) (j x : Nat) : (ints l).set j (.int .i64 (x : Int)) = ints (l.set j x) := by unfold ints; rw [List.map_set]
theorem ints_len (l : List Nat) : (ints l).length = l.length := by unfold ints; simp
theorem ints_zeros (n : Nat) : (madeCells (Value.cells (.int .i64 0)) (n * 1)).toList = ints (List.replicate n 0) := by
  rw [Nat.mul_one, show Value.cells (.int .i64 0) = #[.int .i64 0] from rfl, toList_madeCells_one]; unfold ints; simp
/-- What the inner loop holds behind k words: L is what the row held when it began. -/
structure Inner (L L' : List Nat) (a : Nat) (lb : List Nat) (i k over : Nat) : Prop where
  len : L'.length = L.length
  wds : Wds L'
  ov : over ≤ 9999
  val : wv L' + over * 10000 ^ (i + k) = wv L + a * wv (lb.take k) * 10000 ^ i
  same : ∀ j, i + k ≤ j → L'[j]? = L[j]?
theorem Inner.start {L : List Nat} (a : Nat) (lb : List Nat) (i : Nat) (h : Wds L) : Inner L L a lb i 0 0 :=
  ⟨rfl, h, by decide, by simp [wv], fun _ _ => rfl⟩
theorem take_succ_wv (l : List Nat) (k : Nat) (h : k < l.length) : wv (l.take (k + 1)) = wv (l.take k) + 10000 ^ k * l[k] := by
  rw [List.take_succ, List.getElem?_eq_getElem h, wv_append, List.length_take, Nat.min_eq_left (by omega)]
  simp [wv]
theorem Inner.step {L L' : List Nat} {a : Nat} {lb : List Nat} {i k over x : Nat} (h : Inner L L' a lb i k over) (hk : k < lb.length) (ha : a < 10000) (hb : lb[k] < 10000) (hi : i + k < L'.length) (hx : x = L'[i + k]) :
    Inner L (L'.set (i + k) ((over + x + a * lb[k]) % 10000)) a lb i (k + 1) ((over + x + a * lb[k]) / 10000) := by
  have hx' : L'[i + k] < 10000 := h.wds.getElem _ hi
  have hm : a * lb[k] ≤ 9999 * 9999 := Nat.mul_le_mul (by omega) (by omega)
  have ho := h.ov
  subst hx
  refine ⟨by rw [List.length_set]; exact h.len, h.wds.set _ (Nat.mod_lt _ (by decide)), by omega, ?_, fun j hj => ?_⟩
  · have hs := wv_set L' (i + k) ((over + L'[i + k] + a * lb[k]) % 10000) hi
    have hv := h.val
    rw [take_succ_wv lb k hk, show i + (k + 1) = (i + k) + 1 by omega, Nat.pow_succ]
    generalize hP : 10000 ^ (i + k) = P at *
    have e1 : 10000 ^ i * 10000 ^ k = P := by rw [← Nat.pow_add]; exact hP
    have e2 : a * (wv (lb.take k) + 10000 ^ k * lb[k]) * 10000 ^ i = a * wv (lb.take k) * 10000 ^ i + P * (a * lb[k]) := by
      rw [← e1, Nat.mul_add, Nat.add_mul]
      congr 1
      rw [Nat.mul_comm (a * (10000 ^ k * lb[k])) (10000 ^ i), Nat.mul_left_comm a, ← Nat.mul_assoc, ← Nat.mul_assoc, Nat.mul_assoc (10000 ^ i * 10000 ^ k)]
    rw [e2]
    generalize hS : over + L'[i + k] + a * lb[k] = S at *
    have hd := Nat.mod_add_div S 10000
    have e3 : P * S = P * (S % 10000) + P * (10000 * (S / 10000)) := by rw [← Nat.mul_add, hd]
    have e4 : P * S = P * over + P * L'[i + k] + P * (a * lb[k]) := by rw [← hS, Nat.mul_add, Nat.mul_add]
    have e5 : S / 10000 * (P * 10000) = P * (10000 * (S / 10000)) := by rw [Nat.mul_comm, Nat.mul_assoc]
    have e6 : over * P = P * over := Nat.mul_comm _ _
    omega
  · rw [List.getElem?_set_ne (by omega)]; exact h.same j (by omega)
/-- What the outer loop holds behind i words. -/
structure Outer (la lb L : List Nat) (i : Nat) : Prop where
  len : L.length = la.length + lb.length
  wds : Wds L
  val : wv L = wv (la.take i) * wv lb
  zero : ∀ j, i + lb.length ≤ j → j < L.length → L[j]? = some 0
theorem Outer.start (la lb : List Nat) : Outer la lb (List.replicate (la.length + lb.length) 0) 0 :=
  ⟨by simp, Wds.zeros _, by rw [wv_zeros]; simp [wv], fun j _ hj => by rw [List.getElem?_replicate, if_pos (by simpa using hj)]⟩
theorem Outer.step {la lb L L' : List Nat} {i over : Nat} (h : Outer la lb L i) (hi : i < la.length) (h' : Inner L L' la[i] lb i lb.length over) : Outer la lb (L'.set (i + lb.length) over) (i + 1) := by
  have hlen := h.len
  have hlen' := h'.len
  have hz := h.zero (i + lb.length) (Nat.le_refl _) (by omega)
  have hlt : i + lb.length < L'.length := by omega
  have hz' : L'[i + lb.length] = 0 := by
    have := h'.same (i + lb.length) (Nat.le_refl _)
    rw [hz, List.getElem?_eq_getElem hlt] at this
    exact Option.some.inj this
  refine ⟨by rw [List.length_set]; omega, h'.wds.set _ (by have := h'.ov; omega), ?_, fun j hj hjl => ?_⟩
  · have hs := wv_set L' (i + lb.length) over hlt
    rw [hz'] at hs
    have hv := h'.val
    have hV := h.val
    rw [List.take_length] at hv
    rw [take_succ_wv la i hi, Nat.add_mul, ← hV]
    have e1 : la[i] * wv lb * 10000 ^ i = 10000 ^ i * la[i] * wv lb := by rw [Nat.mul_comm, ← Nat.mul_assoc]
    have e2 : over * 10000 ^ (i + lb.length) = 10000 ^ (i + lb.length) * over := Nat.mul_comm _ _
    omega
  · rw [List.length_set] at hjl
    rw [List.getElem?_set_ne (by omega), h'.same j (by omega)]
    exact h.zero j (by omega) (by omega)
/-- A word stored into a row of one's own. -/
theorem put_rel {w wr : World} {g n cap : Nat} {L : List Nat} (hB : Below w.heap.size w wr) (ho : wr.ownsRow w.heap.size 3 1 (.slice (some ⟨g, 0, none⟩) n cap) n (ints L)) (j x : Nat) :
    (wr.setCell ⟨g, j, none⟩ (.int .i64 (x : Int))).ownsRow w.heap.size 3 1 (.slice (some ⟨g, 0, none⟩) n cap) n (ints (L.set j x)) ∧ Below w.heap.size w (wr.setCell ⟨g, j, none⟩ (.int .i64 (x : Int))) := by
  have hs := ho.stored j (.int .i64 (x : Int))
  rw [ints_set] at hs
  exact ⟨hs.1, hB.setCell (p := ⟨g, j, none⟩) ((ho.lt g rfl).1) _⟩
theorem own_drewN {w : World} {B : Nat} {e : TypeId} {s : Nat} {v : Value} {n : Nat} {xs : List Value} (h : w.ownsRow B e s v n xs) (k : Nat) : (w.drewN k).ownsRow B e s v n xs := h
theorem below_drewN' {B : Nat} {a w : World} (h : Below B a w) (k : Nat) : Below B a (w.drewN k) := ⟨h.os, h.tape, h.output, h.size, h.block⟩
theorem isW_at {w : World} {v : Value} {l : List Nat} (h : IsW w v l) : ∃ (p : Option Addr) (cap : Nat), v = .slice p l.length cap ∧ l.length ≤ cap ∧ ∀ i, (hi : i < l.length) → ∃ g, p = some ⟨g, 0, none⟩ ∧ g < w.heap.size ∧ w.cell? ⟨g, i, none⟩ = some (.int .i64 (l[i] : Nat)) := by
  rcases h.lies with ⟨rfl, rfl⟩ | ⟨g, cap, rfl, h1, _, hc⟩
  · exact ⟨none, 0, rfl, by simp, fun i hi => absurd hi (by simp)⟩
  · exact ⟨_, cap, rfl, h1, fun i hi => ⟨g, rfl, World.block_lt_of_cell? w ⟨g, i, none⟩ (hc i hi), hc i hi⟩⟩
set_option maxRecDepth 100000 in
set_option maxHeartbeats 2000000 in
theorem product_any (va vb : Value) (la lb : List Nat) (w : World) (ha : IsW w va la) (hb : IsW w vb lb) (wa : Wds la) (wb : Wds lb) (hlen : la.length + lb.length ≤ 4000) :
    Calls Tryz.prog 74 #[va, vb] w fun e w' => ∃ (m : List Nat) (v : Value), e = .returned v ∧ IsW w' v m ∧ Wds m ∧ Top m ∧ wv m = wv la * wv lb ∧ m.length ≤ la.length + lb.length ∧ Below w.heap.size w w' := by
  obtain ⟨i0, hi, hz0, hz1, hz2⟩ := info_parts infoInt
  obtain ⟨w1, hmk, hown, hgr⟩ := run_make_full (P := Tryz.prog) w w.heap.size 93 3 i0 (.int .i64 0) 1 Tryz.underlying93 hi hz0 hz1 .i64 .i64 (la.length + lb.length) (by rw [hz2]; omega) (by unfold maxLen; omega) (Nat.le_refl _)
  rw [ints_zeros] at hown
  rw [Int.natCast_add] at hmk
  have hB1 : Below w.heap.size w w1 := ⟨hgr.os, hgr.tape, hgr.output, hgr.size, fun k hk => hgr.block k hk (by simp)⟩
  obtain ⟨pa, ca, rfl, _, hca⟩ := isW_at ha
  obtain ⟨pb, cb, rfl, _, hcb⟩ := isW_at hb
  have HA := Lib.hid hca
  have HBB := Lib.hid hcb
  have HO := Lib.hid hown
  have WA := Lib.hid wa
  have WB := Lib.hid wb
  clear hca hcb ha hb hi hz0 hz1 hz2 hown hgr wa wb
  have x0 : wrap64 ((la.length : Int) + (lb.length : Int)) = (la.length : Int) + (lb.length : Int) := by unfold wrap64; omega
  go_enter Tryz.func74, Tryz.ntmps74
  go_wp2
  clear hmk
  go_loopw [6] (fun x wr => ∃ (i : Nat) (L : List Nat), i ≤ la.length ∧ x = .int .i64 i ∧ wr.ownsRow w.heap.size 3 1 (.slice (some ⟨w.heap.size, 0, none⟩) (la.length + lb.length) (la.length + lb.length)) (la.length + lb.length) (ints L) ∧ Outer la lb L i ∧ Below w.heap.size w wr) (fun x _ => la.length - (intOf x).toNat)
  case atStart => exact ⟨0, _, Nat.zero_le _, rfl, HO.out, Outer.start la lb, hB1⟩
  case round =>
    obtain ⟨i, L, hi, rfl, hown, hout, hB⟩ := hrel
    have HO2 := Lib.hid hown
    have HOUT := Lib.hid hout
    clear hown hout
    by_cases hlt : i < la.length
    · have hlt' : (i : Int) < la.length := by omega
      obtain ⟨ga, rfl, hga, hca⟩ := HA.out i hlt
      have HCA := Lib.hid hca
      clear hca
      go_wp2
      go_loopw [7, 8] (fun o x wx => ∃ (k over : Nat) (L' : List Nat), k ≤ lb.length ∧ x = .int .i64 k ∧ o = .int .i64 over ∧ wx.ownsRow w.heap.size 3 1 (.slice (some ⟨w.heap.size, 0, none⟩) (la.length + lb.length) (la.length + lb.length)) (la.length + lb.length) (ints L') ∧ Inner L L' la[i] lb i k over ∧ Below w.heap.size w wx) (fun _ x _ => lb.length - (intOf x).toNat)
      case atStart => exact ⟨0, 0, L, Nat.zero_le _, rfl, rfl, HO2.out, Inner.start _ _ _ HOUT.out.wds, hB⟩
      case round =>
        obtain ⟨k, over, L', hk, rfl, rfl, hown, hin, hB'⟩ := hrel
        have HO3 := Lib.hid hown
        have HIN := Lib.hid hin
        have hov := hin.ov
        have hLL : L'.length = la.length + lb.length := by rw [hin.len]; exact HOUT.out.len
        clear hown hin
        by_cases hkb : k < lb.length
        · have hkb' : (k : Int) < lb.length := by omega
          obtain ⟨gb, rfl, hgb, hcb⟩ := HBB.out k hkb
          have hik : i + k < L'.length := by omega
          have c1 := (hB'.cell (p := ⟨ga, i, none⟩) hga).trans HCA.out
          have c2 := (hB'.cell (p := ⟨gb, k, none⟩) hgb).trans hcb
          have c3 := HO3.out.cellAt (i + k) (by omega)
          rw [ints_at L' (i + k) hik] at c3
          have f3 := HO3.out.frozenAt (i + k)
          have e1 : ((i : Int) + (k : Int)).toNat = i + k := by omega
          have e2 : (i : Int) + (k : Int) < (la.length : Int) + (lb.length : Int) := by omega
          have HW1 := Lib.hid (WA.out.getElem i hlt)
          have HW2 := Lib.hid (WB.out.getElem k hkb)
          have HW3 := Lib.hid (HIN.out.wds.getElem (i + k) hik)
          have HCB := Lib.hid hcb
          clear hcb
          generalize hx : L'[i + k] = x at *
          generalize hy : la[i] = y at *
          generalize hz : lb[k] = z at *
          obtain ⟨q, hq⟩ : ∃ q : Nat, q = y * z := ⟨_, rfl⟩
          obtain ⟨r, hr⟩ : ∃ r : Nat, r = over + x := ⟨_, rfl⟩
          obtain ⟨S, hS⟩ : ∃ S : Nat, S = r + q := ⟨_, rfl⟩
          have hyz : y * z ≤ 9999 * 9999 := Nat.mul_le_mul (by have := HW1.out; omega) (by have := HW2.out; omega)
          have hSb : S ≤ 99999999 := by have := HW3.out; omega
          have m1 : IntKind.i64.wrap ((y : Int) * (z : Int)) = (q : Int) := by rw [hq, Int.natCast_mul, IntKind.wrap_i64, ← Int.natCast_mul]; omega
          have m2 : IntKind.i64.wrap ((over : Int) + (x : Int)) = (r : Int) := by have := HW3.out; rw [IntKind.wrap_i64]; omega
          have m3 : IntKind.i64.wrap ((r : Int) + (q : Int)) = (S : Int) := by rw [IntKind.wrap_i64]; omega
          have d1 : (S : Int).tmod 10000 = ((S % 10000 : Nat) : Int) := by rw [Int.tmod_eq_emod_of_nonneg (by omega)]; omega
          have d2 : (S : Int).tdiv 10000 = ((S / 10000 : Nat) : Int) := by rw [Int.tdiv_eq_ediv_of_nonneg (by omega)]; omega
          have HS := Lib.hid (show S = over + x + y * z by omega)
          have HX := Lib.hid hx
          have HY := Lib.hid hy
          have HZ := Lib.hid hz
          have HSB := Lib.hid hSb
          clear hS hyz hSb hq hr hx hy hz hov
          go_wp2_with fail
          go_quiet (fail)
          go_wp2
          go_roundw
          case rel =>
            have R := put_rel (below_drewN' hB' nq) (own_drewN HO3.out nq) (i + k) (S % 10000)
            rw [show ((S % 10000 : Nat) : Int) = (S : Int) % 10000 by omega] at R
            have T := HIN.out.step hkb HW1.out (by rw [HZ.out]; exact HW2.out) hik HX.out.symm
            rw [HZ.out, ← HS.out] at T
            exact ⟨k + 1, S / 10000, L'.set (i + k) (S % 10000), by omega, by go_num, congrArg (Value.int .i64) (by unfold wrap64; have := HSB.out; omega), R.1, T, R.2⟩
          case measure => simp [intOf]; omega
        · obtain rfl : k = lb.length := by omega
          have hkb' : ¬ ((lb.length : Nat) : Int) < lb.length := by omega
          have hik : i + lb.length < L'.length := by omega
          have c3 := HO3.out.cellAt (i + lb.length) (by omega)
          rw [ints_at L' (i + lb.length) hik] at c3
          have f3 := HO3.out.frozenAt (i + lb.length)
          have e1 : ((i : Int) + (lb.length : Int)).toNat = i + lb.length := by omega
          have e2 : (i : Int) + (lb.length : Int) < (la.length : Int) + (lb.length : Int) := by omega
          go_wp2
          go_roundw
          case rel =>
            have R := put_rel hB' HO3.out (i + lb.length) over
            exact ⟨i + 1, L'.set (i + lb.length) over, by omega, by go_num, R.1, HOUT.out.step hlt HIN.out, R.2⟩
          case measure => simp [intOf]; omega
    · obtain rfl : i = la.length := by omega
      have hlt' : ¬ ((la.length : Nat) : Int) < la.length := by omega
      have hLN : L.length = la.length + lb.length := HOUT.out.len
      have hI : IsW wr (.slice (some ⟨w.heap.size, 0, none⟩) (la.length + lb.length) (la.length + lb.length)) L := IsW.of_own (B := w.heap.size) (by rw [hLN]; exact HO2.out)
      go_wp2_with (go_at_call 106; refine (pcut_any _ L _ hI HOUT.out.wds).mono ?_; rintro e w2 ⟨⟨m, v', rfl, q1, q2, q3, q4, q5⟩, rfl⟩)
      go_ret
      exact ⟨m, v', rfl, q1, q2, q3, by rw [q4, HOUT.out.val, List.take_length], by omega, hB⟩
end Go.Proofs.YtfpbcokfianjaaaGreat.Pw
