/- The law on a blank that is put in where a token begins, walked: at every text and number it answers true. New memory alone is made. The conditions: a text of at most 1048575 bytes; what package value lays (the names), and that a variable of the library holds a number. -/
import Derived.Test.YtaamphdihmghhaaDoorLJ
namespace Go.Proofs.YtaamphdihmghhaaDoor
open Go.Shelf Go.RowKit
set_option linter.all false
theorem flat_set : ∀ (ts : List Tk) (i : Nat) (t : Tk), ts[i]? = some t → (flat ts).set (i * 11 + 1) (.int .i64 (t.at' + 1)) = flat (ts.set i (incT t))
  | [], i, t, h => by simp at h
  | u :: r, 0, t, h => by
    simp at h; subst h
    have e : flat (u :: r) = u.cells.toList ++ flat r := rfl
    have e2 : flat ((u :: r).set 0 (incT u)) = (incT u).cells.toList ++ flat r := rfl
    rw [e, e2]
    rfl
  | u :: r, i + 1, t, h => by
    have ih := flat_set r i t (by simpa using h)
    have e : flat (u :: r) = u.cells.toList ++ flat r := rfl
    have e2 : flat ((u :: r).set (i + 1) (incT t)) = u.cells.toList ++ flat (r.set i (incT t)) := rfl
    have e3 : (i + 1) * 11 + 1 = u.cells.toList.length + (i * 11 + 1) := by rw [cells_len]; omega
    rw [e, e2, e3, List.set_append_right _ _ (by omega), Nat.add_sub_cancel_left, ih]
/-- What the loop has made of the list when it stands at i. -/
def mid (K i : Nat) (ts : List Tk) : List Tk := bump K (ts.take i) ++ ts.drop i
theorem bump_len (K : Nat) (l : List Tk) : (bump K l).length = l.length := by
  unfold bump; rw [List.length_append, List.length_map, List.length_take, List.length_drop]; omega
theorem mid_len (K i : Nat) (ts : List Tk) (hi : i ≤ ts.length) : (mid K i ts).length = ts.length := by
  unfold mid; rw [List.length_append, bump_len, List.length_take, List.length_drop]; omega
theorem mid_start (K : Nat) (ts : List Tk) : mid K K ts = ts := by
  unfold mid bump
  rw [List.take_take, Nat.min_self, List.drop_take, Nat.sub_self, List.take_zero, List.map_nil, List.append_nil, List.take_append_drop]
theorem mid_end (K : Nat) (ts : List Tk) : mid K ts.length ts = bump K ts := by
  unfold mid; rw [List.take_length, List.drop_length, List.append_nil]
theorem mid_at {K i : Nat} {ts : List Tk} (hi : i < ts.length) : (mid K i ts)[i]? = some ts[i] := by
  unfold mid
  rw [List.getElem?_append_right (by rw [bump_len, List.length_take]; omega), bump_len, List.length_take, List.getElem?_drop, List.getElem?_eq_getElem (by omega)]
  congr 2; omega
theorem mid_next {K i : Nat} {ts : List Tk} (hK : K ≤ i) (hi : i < ts.length) : (mid K i ts).set i (incT ts[i]) = mid K (i + 1) ts := by
  unfold mid
  have h1 : (bump K (ts.take i)).length = i := by rw [bump_len, List.length_take]; omega
  rw [List.set_append_right _ _ (by omega), h1, Nat.sub_self, List.drop_eq_getElem_cons hi, List.set_cons_zero]
  have h2 : bump K (ts.take (i + 1)) = bump K (ts.take i) ++ [incT ts[i]] := by
    unfold bump
    rw [List.take_succ_eq_append_getElem hi, List.take_append_of_le_length (by rw [List.length_take]; omega), List.drop_append_of_le_length (by rw [List.length_take]; omega), List.map_append]
    simp
  rw [h2, List.append_assoc]
  rfl
theorem rem_cases (which : Int) (n : Nat) (hn : 0 < n) (hw : I64 which) : ∃ K : Nat, K < n ∧ ((which.tmod n = (K : Int)) ∨ (which.tmod n = (K : Int) - n ∧ which.tmod n < 0)) := by
  have h1 := Int.tmod_lt_of_pos which (b := (n : Int)) (by omega)
  have h2 := Int.lt_tmod_of_pos which (b := (n : Int)) (by omega)
  by_cases h : 0 ≤ which.tmod n
  · exact ⟨(which.tmod n).toNat, by omega, .inl (by omega)⟩
  · exact ⟨(which.tmod n + n).toNat, by omega, .inr ⟨by omega, by omega⟩⟩
set_option maxRecDepth 100000 in
set_option maxHeartbeats 4000000 in
theorem blanks_any (s : ByteArray) (which : Int) (w : World) (hs : s.size + 1 ≤ 1048576) (hwh : I64 which) (hN : Vv.Nam w) (hM : Mx w) :
    Calls Tryd.prog 4 #[.string s, .int .i64 which] w fun e w' => e = .returned (.bool true) ∧ Below w.heap.size w w' := by
  have HA : Hid _ := all_m1 s w (by omega) hN hM
  have HKn : Hid (∀ w1, Below w.heap.size w w1 → Calls Tryd.prog 7 #[] w1 fun e w' => e = .returned (.bool true) ∧ Below w1.heap.size w1 w') := fun w1 hb => known_any w1 (hN.stays hb) (hM.stays hb)
  have HAA : Hid (∀ (w1 : World) (x : ByteArray), Below w.heap.size w w1 → x.size ≤ 1048576 → Calls Tryd.prog 6 #[.string x, .int .i64 (-1)] w1 fun e w' => ∃ v, e = .returned v ∧ IsTs w' w1.heap.size v (toks x) ∧ Below w1.heap.size w1 w') := fun w1 x hb hx => all_m1 x w1 hx (hN.stays hb) (hM.stays hb)
  have HG : Hid _ := good_toks s
  have HBL : Hid (∀ (k a : Nat) (t : Tk), (∀ u, (toks s)[(toks s).length - 1]? = some u → u.kind ≠ 8) → (toks s)[k]? = some t → t.at' = (a : Int) → a ≤ s.size ∧ toks (s.extract 0 a ++ ⟨#[32]⟩ ++ s.extract a s.size) = bump k (toks s)) := fun k a t h1 h2 h3 => blanks_toks h1 h2 h3
  obtain ⟨ts, hts⟩ : ∃ ts, toks s = ts := ⟨_, rfl⟩
  have hlen := toks_le s
  rw [hts] at HA HG hlen HBL
  obtain ⟨m, hm⟩ : ∃ m, ts.length = m + 1 := ⟨ts.length - 1, by have := HG.out.pos; omega⟩
  have HS : Hid (s.size + 1 ≤ 1048576) := hs
  have hs' : s.size < 4000000000 := by omega
  have hm' : m ≤ s.size := by omega
  obtain ⟨K, hK, hrem⟩ := rem_cases which (m + 1) (by omega) hwh
  have hcast : (((m + 1 : Nat)) : Int) = (m : Int) + 1 := by omega
  rw [hcast] at hrem
  have hwm : IntKind.i64.wrap (m : Int) = (m : Int) := by rw [IntKind.wrap_i64]; omega
  have hdz : ¬ (m : Int) + 1 = 0 := by omega
  clear hs hN hM hts hlen hcast
  have htm : ts[m]? = some ts[m] := List.getElem?_eq_getElem (by omega)
  have htK : ts[K]? = some ts[K] := List.getElem?_eq_getElem (by omega)
  have hgK := HG.out.at htK
  obtain ⟨a, ha⟩ : ∃ a : Nat, ts[K].at' = (a : Int) := ⟨ts[K].at'.toNat, by have := hgK.1; omega⟩
  have haS : (a : Int) ≤ s.size := by have := hgK.2.1; omega
  have haS' : ¬ (s.size : Int) < (a : Int) := by omega
  have ha0 : ¬ (a : Int) < 0 := by omega
  have HAT : Hid (∀ (i : Nat) (t : Tk), ts[i]? = some t → 0 ≤ t.at' ∧ t.at' ≤ s.size) := fun i t hi => ⟨(HG.out.at hi).1, (HG.out.at hi).2.1⟩
  by_cases h8 : ts[m].kind = 8
  · have HT8 : Hid _ := htm
    clear hgK ha haS haS' ha0 htK hrem
    go_enter Tryd.func4, Tryd.ntmps4
    revert h8 HT8
    clear htm
    generalize ts[m] = t
    intro h8 HT8
    go_wp2_with (first | (go_at_call 6; (refine Calls.mono HA.out ?_; rintro e w1 ⟨v, rfl, hT, hb1⟩; obtain ⟨g, cap, rfl, hg1, hg2, hc, hf, hcap⟩ := hT.form HG.out.pos; rw [hm] at hcap ⊢; have HT1 : Hid _ := hT; clear hT HA)) | (go_at_call 7; (refine Calls.mono (HKn.out w1 hb1) ?_; rintro e w2 ⟨rfl, hb2⟩; have hB2 : Below w.heap.size w w2 := bup hb1 hb2; have hc2 : ∀ i t, ts[i]? = some t → ∀ j, j < 11 → w2.cell? ⟨g, i * 11 + j, none⟩ = t.cells[j]? := (fun i t hi j hj => (hb2.cell (p := ⟨g, i * 11 + j, none⟩) hg2).trans (hc i t hi j hj)); have y0 : w2.cell? ⟨g, m * 11, none⟩ = some (.int .i64 t.kind) := hc2 m _ HT8.out 0 (by decide); have y1 : w2.cell? ⟨g, m * 11 + 1, none⟩ = some (.int .i64 t.at') := hc2 m _ HT8.out 1 (by decide); have y2 : w2.cell? ⟨g, m * 11 + 2, none⟩ = some (.int .i64 t.num) := hc2 m _ HT8.out 2 (by decide); have y3 : w2.cell? ⟨g, m * 11 + 3, none⟩ = some (.string t.str) := hc2 m _ HT8.out 3 (by decide); have y4 : w2.cell? ⟨g, m * 11 + 4, none⟩ = some (.int .i64 t.c0) := hc2 m _ HT8.out 4 (by decide); have y5 : w2.cell? ⟨g, m * 11 + 5, none⟩ = some (.int .i64 t.c1) := hc2 m _ HT8.out 5 (by decide); have y6 : w2.cell? ⟨g, m * 11 + 6, none⟩ = some (.int .i64 t.r0) := hc2 m _ HT8.out 6 (by decide); have y7 : w2.cell? ⟨g, m * 11 + 7, none⟩ = some (.int .i64 t.r1) := hc2 m _ HT8.out 7 (by decide); have y8 : w2.cell? ⟨g, m * 11 + 8, none⟩ = some (.int .i64 t.r2) := hc2 m _ HT8.out 8 (by decide); have y9 : w2.cell? ⟨g, m * 11 + 9, none⟩ = some (.int .i64 t.r3) := hc2 m _ HT8.out 9 (by decide); have y10 : w2.cell? ⟨g, m * 11 + 10, none⟩ = some (.int .i64 t.code) := hc2 m _ HT8.out 10 (by decide); have HC : Hid _ := hc2; have hg3 : g < w2.heap.size := Nat.lt_of_lt_of_le hg2 hb2.size; rw [h8] at y0; clear hc2 hc hb2 HKn)))
    go_ret
    have hzn := hB2.size
    exact ⟨rfl, by with_reducible (repeat' first | assumption | exact Below.refl _ _ | refine Below.drew ?_ | refine Below.setCell ?_ (by first | exact Nat.le_refl _ | (simp; done) | (simp; omega) | omega) _ | refine Below.alloc ?_ (by first | exact Nat.le_refl _ | (simp; done) | (simp; omega) | omega) _)⟩
  · have hend : ∀ u, ts[ts.length - 1]? = some u → u.kind ≠ 8 := by
      intro u hu
      have e : ts.length - 1 = m := by omega
      rw [e, htm] at hu
      cases hu
      exact h8
    obtain ⟨hale, HTB⟩ := HBL.out K a _ hend htK ha
    have HT8 : Hid _ := htm
    have HTK : Hid _ := htK
    have HHTB : Hid _ := HTB
    clear hend HTB HBL hgK htm htK
    have hk8 : (ts[m].kind == 8) = false := by simpa using h8
    revert h8 HT8 hk8
    generalize ts[m] = t
    intro h8 HT8 hk8
    revert ha HTK
    generalize ts[K] = tK
    intro ha HTK
    have hKi : ¬ (K : Int) < 0 := by omega
    have hKm : (K : Int) < (m : Int) + 1 := by omega
    have hwK : IntKind.i64.wrap (K : Int) = (K : Int) := by rw [IntKind.wrap_i64]; omega
    have hsa : (s.extract 0 a).size ≤ s.size := ext_size0 s a
    have hsb : (s.extract a s.size).size ≤ s.size := ext_size s a
    have hcat : ¬ (9223372036854775807 < (s.extract 0 a).size + 1) := by omega
    rcases hrem with hrem | ⟨hrem, hneg⟩
    · go_enter Tryd.func4, Tryd.ntmps4
      go_wp2_with (first | (go_at_call 6; (refine Calls.mono HA.out ?_; rintro e w1 ⟨v, rfl, hT, hb1⟩; obtain ⟨g, cap, rfl, hg1, hg2, hc, hf, hcap⟩ := hT.form HG.out.pos; rw [hm] at hcap ⊢; have HT1 : Hid _ := hT; clear hT HA)) | (go_at_call 7; (refine Calls.mono (HKn.out w1 hb1) ?_; rintro e w2 ⟨rfl, hb2⟩; have hB2 : Below w.heap.size w w2 := bup hb1 hb2; have hc2 : ∀ i t, ts[i]? = some t → ∀ j, j < 11 → w2.cell? ⟨g, i * 11 + j, none⟩ = t.cells[j]? := (fun i t hi j hj => (hb2.cell (p := ⟨g, i * 11 + j, none⟩) hg2).trans (hc i t hi j hj)); have y0 : w2.cell? ⟨g, m * 11, none⟩ = some (.int .i64 t.kind) := hc2 m _ HT8.out 0 (by decide); have y1 : w2.cell? ⟨g, m * 11 + 1, none⟩ = some (.int .i64 t.at') := hc2 m _ HT8.out 1 (by decide); have y2 : w2.cell? ⟨g, m * 11 + 2, none⟩ = some (.int .i64 t.num) := hc2 m _ HT8.out 2 (by decide); have y3 : w2.cell? ⟨g, m * 11 + 3, none⟩ = some (.string t.str) := hc2 m _ HT8.out 3 (by decide); have y4 : w2.cell? ⟨g, m * 11 + 4, none⟩ = some (.int .i64 t.c0) := hc2 m _ HT8.out 4 (by decide); have y5 : w2.cell? ⟨g, m * 11 + 5, none⟩ = some (.int .i64 t.c1) := hc2 m _ HT8.out 5 (by decide); have y6 : w2.cell? ⟨g, m * 11 + 6, none⟩ = some (.int .i64 t.r0) := hc2 m _ HT8.out 6 (by decide); have y7 : w2.cell? ⟨g, m * 11 + 7, none⟩ = some (.int .i64 t.r1) := hc2 m _ HT8.out 7 (by decide); have y8 : w2.cell? ⟨g, m * 11 + 8, none⟩ = some (.int .i64 t.r2) := hc2 m _ HT8.out 8 (by decide); have y9 : w2.cell? ⟨g, m * 11 + 9, none⟩ = some (.int .i64 t.r3) := hc2 m _ HT8.out 9 (by decide); have y10 : w2.cell? ⟨g, m * 11 + 10, none⟩ = some (.int .i64 t.code) := hc2 m _ HT8.out 10 (by decide); have HC : Hid _ := hc2; have hg3 : g < w2.heap.size := Nat.lt_of_lt_of_le hg2 hb2.size; have HT2 : Hid (IsTs w2 w.heap.size (.slice (some ⟨g, 0, none⟩) ts.length cap) ts) := IsTs.keep HT1.out hb2; have xk : ∀ o, (w2.alloc o).cell? ⟨g, K * 11 + 1, none⟩ = some (.int .i64 (a : Int)) := (fun o => (World.cell?_of_block (Below.heap_alloc w2 _ _ hg3)).trans ((hc2 K _ HTK.out 1 (by decide)).trans (by rw [← ha]; rfl))); clear hc2 hc hb2 HKn)))
      have hzz := hB2.size
      go_loopw [9] (fun v w' => ∃ i : Nat, v = .int .i64 i ∧ K ≤ i ∧ i ≤ m + 1 ∧ Hid (IsTs w' w.heap.size (.slice (some ⟨g, 0, none⟩) (m + 1) cap) (mid K i ts)) ∧ Below w.heap.size w w') (fun v _ => m + 1 - (intOf v).toNat)
      case atStart =>
        refine ⟨K, rfl, Nat.le_refl _, by omega, ?_, by with_reducible (repeat' first | assumption | exact Below.refl _ _ | refine Below.drew ?_ | refine Below.setCell ?_ (by first | exact Nat.le_refl _ | (simp; done) | (simp; omega) | omega) _ | refine Below.alloc ?_ (by first | exact Nat.le_refl _ | (simp; done) | (simp; omega) | omega) _)⟩
        have h := IsTs.keep HT2.out (bal w2 (.cells #[.int .i64 t.kind, .int .i64 t.at', .int .i64 t.num, .string t.str, .int .i64 t.c0, .int .i64 t.c1, .int .i64 t.r0, .int .i64 t.r1, .int .i64 t.r2, .int .i64 t.r3, .int .i64 t.code] 31))
        rw [hm] at h
        show IsTs _ _ _ _
        rw [mid_start]; exact h
      case round =>
        obtain ⟨i, rfl, hKi1, hi, HT, hBw⟩ := hrel
        by_cases hlt : i < m + 1
        · have hlt' : (i : Int) < (m : Int) + 1 := by omega
          have hil : i < ts.length := by omega
          have hrow : wr.ownsRow w.heap.size 31 11 (.slice (some ⟨g, 0, none⟩) (m + 1) cap) (m + 1) (flat (mid K i ts)) := by
            have h := HT.out; unfold IsTs at h; rw [mid_len K i ts (by omega), hm] at h; exact h
          have hat := HAT.out i _ (List.getElem?_eq_getElem hil)
          have hma := mid_at (K := K) hil
          have hmn := mid_next hKi1 hil
          revert hat hma hmn
          generalize ts[i] = u
          intro hat hma hmn
          have x1 : wr.cell? ⟨g, i * 11 + 1, none⟩ = some (.int .i64 u.at') := (World.ownsRow.cellAt hrow (i * 11 + 1) (by omega)).trans (flat_at _ i 1 u hma (by decide))
          have f1 : wr.frozen? ⟨g, i * 11 + 1, none⟩ = false := World.ownsRow.frozenAt hrow _
          have hst := (World.ownsRow.stored hrow (i * 11 + 1) (.int .i64 (u.at' + 1))).1
          rw [flat_set _ i u hma, hmn] at hst
          have HST : Hid (IsTs (wr.setCell ⟨g, i * 11 + 1, none⟩ (.int .i64 (u.at' + 1))) w.heap.size (.slice (some ⟨g, 0, none⟩) (m + 1) cap) (mid K (i + 1) ts)) := by
            show IsTs _ _ _ _
            unfold IsTs; rw [mid_len K (i + 1) ts (by omega), hm]; exact hst
          have hw1 : IntKind.i64.wrap (u.at' + 1) = u.at' + 1 := by rw [IntKind.wrap_i64]; omega
          clear hst hma hmn hrow HT
          go_wp2
          exact ⟨⟨i + 1, by go_num, by omega, by omega, HST, hBw.setCell (p := ⟨g, i * 11 + 1, none⟩) hg1 _⟩, by first | (simp [intOf]; done) | (simp [intOf]; omega)⟩
        · have hlt' : ¬ (i : Int) < (m : Int) + 1 := by omega
          obtain rfl : i = m + 1 := by omega
          have HX : Hid (IsTs wr w.heap.size (.slice (some ⟨g, 0, none⟩) (m + 1) cap) (bump K ts)) := by
            have h := HT.out; rw [← hm, mid_end, hm] at h; exact h
          have HLN : Hid ((bump K ts).length ≤ 2000000) := by show _ ≤ _; rw [bump_len, hm]; have := HS.out; omega
          have hcA : ¬ (9223372036854775807 < min a s.size + 1) := by omega
          have hcB : ¬ (9223372036854775807 < a + 1) := by omega
          have hcC : ¬ (9223372036854775807 < min a s.size + 1 + (s.size - a)) := by omega
          have hcD : ¬ (9223372036854775807 < a + 1 + (s.size - a)) := by omega
          have hcE : ¬ (9223372036854775807 < (s.extract 0 a).size + 1 + (s.extract a s.size).size) := by omega
          have hc2' : ¬ (9223372036854775807 < (s.extract 0 a ++ (⟨#[32]⟩ : ByteArray)).size + (s.extract a s.size).size) := by rw [ByteArray.size_append]; show ¬ (_ < (_ + 1) + _); omega
          have HH : Hid (∀ w3, Below wr.heap.size wr w3 → Calls Tryd.prog 6 #[.string (s.extract 0 a ++ ⟨#[32]⟩ ++ s.extract a s.size), .int .i64 (-1)] w3 fun e w' => ∃ v, e = .returned v ∧ IsTs w' w3.heap.size v (bump K ts) ∧ Below w3.heap.size w3 w') := fun w3 hb3 => by
            have h := HAA.out w3 (s.extract 0 a ++ ⟨#[32]⟩ ++ s.extract a s.size) (bup hBw hb3) (by
              rw [ByteArray.size_append, ByteArray.size_append, ByteArray.size_extract, ByteArray.size_extract]
              have := HS.out
              show _ + 1 + _ ≤ _
              omega)
            rw [HHTB.out] at h
            exact h
          have HH1 : Hid _ := HH.out wr.drew (Below.refl _ _).drew
          clear HT HH HAA HHTB
          go_wp2
          go_region_held3 (fun _ => True) (trivial) ((first | (go_at_call 6; (refine Calls.mono HH1.out ?_; rintro e w4 ⟨v4, rfl, hT4, hb4⟩; obtain ⟨p4, n4, c4, rfl, hn4⟩ := hT4.slice; have hb4' : Below wr.heap.size wr w4 := bup ((Below.refl _ _).drew) hb4; have HSM : Hid (Calls Tryd.prog 8 #[.slice p4 n4 c4, .slice (some ⟨g, 0, none⟩) (m + 1) cap] w4 fun e w' => e = .returned (.bool true) ∧ Below w4.heap.size w4 w') := (same_any w4 w.heap.size _ _ (bump K ts) (hT4.mono hBw.size) (IsTs.keep HX.out hb4') HLN.out); clear hT4 hb4 hn4)) | (go_at_call 8; (refine Calls.mono HSM.out ?_; rintro e w5 ⟨rfl, hb5⟩; have hb5' : Below w4.heap.size w4 w5 := hb5; clear hb5))))
          all_goals go_wp2
          all_goals go_ret
          all_goals exact ⟨rfl, bup (bup hBw hb4') hb5'⟩
    · go_enter Tryd.func4, Tryd.ntmps4
      go_wp2_with (first | (go_at_call 6; (refine Calls.mono HA.out ?_; rintro e w1 ⟨v, rfl, hT, hb1⟩; obtain ⟨g, cap, rfl, hg1, hg2, hc, hf, hcap⟩ := hT.form HG.out.pos; rw [hm] at hcap ⊢; have HT1 : Hid _ := hT; clear hT HA)) | (go_at_call 7; (refine Calls.mono (HKn.out w1 hb1) ?_; rintro e w2 ⟨rfl, hb2⟩; have hB2 : Below w.heap.size w w2 := bup hb1 hb2; have hc2 : ∀ i t, ts[i]? = some t → ∀ j, j < 11 → w2.cell? ⟨g, i * 11 + j, none⟩ = t.cells[j]? := (fun i t hi j hj => (hb2.cell (p := ⟨g, i * 11 + j, none⟩) hg2).trans (hc i t hi j hj)); have y0 : w2.cell? ⟨g, m * 11, none⟩ = some (.int .i64 t.kind) := hc2 m _ HT8.out 0 (by decide); have y1 : w2.cell? ⟨g, m * 11 + 1, none⟩ = some (.int .i64 t.at') := hc2 m _ HT8.out 1 (by decide); have y2 : w2.cell? ⟨g, m * 11 + 2, none⟩ = some (.int .i64 t.num) := hc2 m _ HT8.out 2 (by decide); have y3 : w2.cell? ⟨g, m * 11 + 3, none⟩ = some (.string t.str) := hc2 m _ HT8.out 3 (by decide); have y4 : w2.cell? ⟨g, m * 11 + 4, none⟩ = some (.int .i64 t.c0) := hc2 m _ HT8.out 4 (by decide); have y5 : w2.cell? ⟨g, m * 11 + 5, none⟩ = some (.int .i64 t.c1) := hc2 m _ HT8.out 5 (by decide); have y6 : w2.cell? ⟨g, m * 11 + 6, none⟩ = some (.int .i64 t.r0) := hc2 m _ HT8.out 6 (by decide); have y7 : w2.cell? ⟨g, m * 11 + 7, none⟩ = some (.int .i64 t.r1) := hc2 m _ HT8.out 7 (by decide); have y8 : w2.cell? ⟨g, m * 11 + 8, none⟩ = some (.int .i64 t.r2) := hc2 m _ HT8.out 8 (by decide); have y9 : w2.cell? ⟨g, m * 11 + 9, none⟩ = some (.int .i64 t.r3) := hc2 m _ HT8.out 9 (by decide); have y10 : w2.cell? ⟨g, m * 11 + 10, none⟩ = some (.int .i64 t.code) := hc2 m _ HT8.out 10 (by decide); have HC : Hid _ := hc2; have hg3 : g < w2.heap.size := Nat.lt_of_lt_of_le hg2 hb2.size; have HT2 : Hid (IsTs w2 w.heap.size (.slice (some ⟨g, 0, none⟩) ts.length cap) ts) := IsTs.keep HT1.out hb2; have xk : ∀ o, (w2.alloc o).cell? ⟨g, K * 11 + 1, none⟩ = some (.int .i64 (a : Int)) := (fun o => (World.cell?_of_block (Below.heap_alloc w2 _ _ hg3)).trans ((hc2 K _ HTK.out 1 (by decide)).trans (by rw [← ha]; rfl))); clear hc2 hc hb2 HKn)))
      have hzz := hB2.size
      go_loopw [9] (fun v w' => ∃ i : Nat, v = .int .i64 i ∧ K ≤ i ∧ i ≤ m + 1 ∧ Hid (IsTs w' w.heap.size (.slice (some ⟨g, 0, none⟩) (m + 1) cap) (mid K i ts)) ∧ Below w.heap.size w w') (fun v _ => m + 1 - (intOf v).toNat)
      case atStart =>
        refine ⟨K, rfl, Nat.le_refl _, by omega, ?_, by with_reducible (repeat' first | assumption | exact Below.refl _ _ | refine Below.drew ?_ | refine Below.setCell ?_ (by first | exact Nat.le_refl _ | (simp; done) | (simp; omega) | omega) _ | refine Below.alloc ?_ (by first | exact Nat.le_refl _ | (simp; done) | (simp; omega) | omega) _)⟩
        have h := IsTs.keep HT2.out (bal w2 (.cells #[.int .i64 t.kind, .int .i64 t.at', .int .i64 t.num, .string t.str, .int .i64 t.c0, .int .i64 t.c1, .int .i64 t.r0, .int .i64 t.r1, .int .i64 t.r2, .int .i64 t.r3, .int .i64 t.code] 31))
        rw [hm] at h
        show IsTs _ _ _ _
        rw [mid_start]; exact h
      case round =>
        obtain ⟨i, rfl, hKi1, hi, HT, hBw⟩ := hrel
        by_cases hlt : i < m + 1
        · have hlt' : (i : Int) < (m : Int) + 1 := by omega
          have hil : i < ts.length := by omega
          have hrow : wr.ownsRow w.heap.size 31 11 (.slice (some ⟨g, 0, none⟩) (m + 1) cap) (m + 1) (flat (mid K i ts)) := by
            have h := HT.out; unfold IsTs at h; rw [mid_len K i ts (by omega), hm] at h; exact h
          have hat := HAT.out i _ (List.getElem?_eq_getElem hil)
          have hma := mid_at (K := K) hil
          have hmn := mid_next hKi1 hil
          revert hat hma hmn
          generalize ts[i] = u
          intro hat hma hmn
          have x1 : wr.cell? ⟨g, i * 11 + 1, none⟩ = some (.int .i64 u.at') := (World.ownsRow.cellAt hrow (i * 11 + 1) (by omega)).trans (flat_at _ i 1 u hma (by decide))
          have f1 : wr.frozen? ⟨g, i * 11 + 1, none⟩ = false := World.ownsRow.frozenAt hrow _
          have hst := (World.ownsRow.stored hrow (i * 11 + 1) (.int .i64 (u.at' + 1))).1
          rw [flat_set _ i u hma, hmn] at hst
          have HST : Hid (IsTs (wr.setCell ⟨g, i * 11 + 1, none⟩ (.int .i64 (u.at' + 1))) w.heap.size (.slice (some ⟨g, 0, none⟩) (m + 1) cap) (mid K (i + 1) ts)) := by
            show IsTs _ _ _ _
            unfold IsTs; rw [mid_len K (i + 1) ts (by omega), hm]; exact hst
          have hw1 : IntKind.i64.wrap (u.at' + 1) = u.at' + 1 := by rw [IntKind.wrap_i64]; omega
          clear hst hma hmn hrow HT
          go_wp2
          exact ⟨⟨i + 1, by go_num, by omega, by omega, HST, hBw.setCell (p := ⟨g, i * 11 + 1, none⟩) hg1 _⟩, by first | (simp [intOf]; done) | (simp [intOf]; omega)⟩
        · have hlt' : ¬ (i : Int) < (m : Int) + 1 := by omega
          obtain rfl : i = m + 1 := by omega
          have HX : Hid (IsTs wr w.heap.size (.slice (some ⟨g, 0, none⟩) (m + 1) cap) (bump K ts)) := by
            have h := HT.out; rw [← hm, mid_end, hm] at h; exact h
          have HLN : Hid ((bump K ts).length ≤ 2000000) := by show _ ≤ _; rw [bump_len, hm]; have := HS.out; omega
          have hcA : ¬ (9223372036854775807 < min a s.size + 1) := by omega
          have hcB : ¬ (9223372036854775807 < a + 1) := by omega
          have hcC : ¬ (9223372036854775807 < min a s.size + 1 + (s.size - a)) := by omega
          have hcD : ¬ (9223372036854775807 < a + 1 + (s.size - a)) := by omega
          have hcE : ¬ (9223372036854775807 < (s.extract 0 a).size + 1 + (s.extract a s.size).size) := by omega
          have hc2' : ¬ (9223372036854775807 < (s.extract 0 a ++ (⟨#[32]⟩ : ByteArray)).size + (s.extract a s.size).size) := by rw [ByteArray.size_append]; show ¬ (_ < (_ + 1) + _); omega
          have HH : Hid (∀ w3, Below wr.heap.size wr w3 → Calls Tryd.prog 6 #[.string (s.extract 0 a ++ ⟨#[32]⟩ ++ s.extract a s.size), .int .i64 (-1)] w3 fun e w' => ∃ v, e = .returned v ∧ IsTs w' w3.heap.size v (bump K ts) ∧ Below w3.heap.size w3 w') := fun w3 hb3 => by
            have h := HAA.out w3 (s.extract 0 a ++ ⟨#[32]⟩ ++ s.extract a s.size) (bup hBw hb3) (by
              rw [ByteArray.size_append, ByteArray.size_append, ByteArray.size_extract, ByteArray.size_extract]
              have := HS.out
              show _ + 1 + _ ≤ _
              omega)
            rw [HHTB.out] at h
            exact h
          have HH1 : Hid _ := HH.out wr.drew (Below.refl _ _).drew
          clear HT HH HAA HHTB
          go_wp2
          go_region_held3 (fun _ => True) (trivial) ((first | (go_at_call 6; (refine Calls.mono HH1.out ?_; rintro e w4 ⟨v4, rfl, hT4, hb4⟩; obtain ⟨p4, n4, c4, rfl, hn4⟩ := hT4.slice; have hb4' : Below wr.heap.size wr w4 := bup ((Below.refl _ _).drew) hb4; have HSM : Hid (Calls Tryd.prog 8 #[.slice p4 n4 c4, .slice (some ⟨g, 0, none⟩) (m + 1) cap] w4 fun e w' => e = .returned (.bool true) ∧ Below w4.heap.size w4 w') := (same_any w4 w.heap.size _ _ (bump K ts) (hT4.mono hBw.size) (IsTs.keep HX.out hb4') HLN.out); clear hT4 hb4 hn4)) | (go_at_call 8; (refine Calls.mono HSM.out ?_; rintro e w5 ⟨rfl, hb5⟩; have hb5' : Below w4.heap.size w4 w5 := hb5; clear hb5))))
          all_goals go_wp2
          all_goals go_ret
          all_goals exact ⟨rfl, bup (bup hBw hb4') hb5'⟩
end Go.Proofs.YtaamphdihmghhaaDoor
