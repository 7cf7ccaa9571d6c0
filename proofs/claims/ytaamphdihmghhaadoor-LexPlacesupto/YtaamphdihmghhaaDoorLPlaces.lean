/- The law on places, walked: at every text it answers true. New memory alone is made. The conditions: a text of at most 1048576 bytes; what package value lays (the names), and that a variable of the library holds a number. -/
import Derived.Test.YtaamphdihmghhaaDoorLG
namespace Go.Proofs.YtaamphdihmghhaaDoor
open Go.Shelf Go.RowKit
set_option linter.all false
set_option maxRecDepth 100000 in
set_option maxHeartbeats 4000000 in
theorem places_any (s : ByteArray) (w : World) (hs : s.size ≤ 1048576) (hN : Vv.Nam w) (hM : Mx w) :
    Calls Tryd.prog 3 #[.string s] w fun e w' => e = .returned (.bool true) ∧ Below w.heap.size w w' := by
  have HA : Hid _ := all_m1 s w hs hN hM
  have HKn : Hid (∀ w1, Below w.heap.size w w1 → Calls Tryd.prog 7 #[] w1 fun e w' => e = .returned (.bool true) ∧ Below w1.heap.size w1 w') := fun w1 hb => known_any w1 (hN.stays hb) (hM.stays hb)
  have HG : Hid _ := good_toks s
  obtain ⟨ts, hts⟩ : ∃ ts, toks s = ts := ⟨_, rfl⟩
  have hlen := toks_le s
  rw [hts] at HA HG hlen
  obtain ⟨m, hm⟩ : ∃ m, ts.length = m + 1 := ⟨ts.length - 1, by have := HG.out.pos; omega⟩
  have hs' : s.size < 4000000000 := by omega
  have hm' : m ≤ s.size := by omega
  have hwm : IntKind.i64.wrap (m : Int) = (m : Int) := by rw [IntKind.wrap_i64]; omega
  clear hs hN hM hts hlen
  have mixed : Tryd.prog.follows .mixedOrders = true := by kernel_rfl
  go_enter Tryd.func3, Tryd.ntmps3
  go_wp2_with (first | (go_at_call 6; (refine Calls.mono HA.out ?_; rintro e w1 ⟨v, rfl, hT, hb1⟩; obtain ⟨g, cap, rfl, hg1, hg2, hc, hf, hcap⟩ := hT.form HG.out.pos; rw [hm] at hcap ⊢; clear hT HA)) | (go_at_call 7; (refine Calls.mono (HKn.out w1 hb1) ?_; rintro e w2 ⟨rfl, hb2⟩; have hB2 : Below w.heap.size w w2 := bup hb1 hb2; have hc2 : ∀ i t, ts[i]? = some t → ∀ j, j < 11 → w2.cell? ⟨g, i * 11 + j, none⟩ = t.cells[j]? := (fun i t hi j hj => (hb2.cell (p := ⟨g, i * 11 + j, none⟩) hg2).trans (hc i t hi j hj)); have HC : Hid _ := hc2; have hg3 : g < w2.heap.size := Nat.lt_of_lt_of_le hg2 hb2.size; clear hc2 hc hb2 HKn)))
  go_loopw [4] (fun v w' => ∃ i : Nat, v = .int .i64 i ∧ i ≤ m + 1 ∧ Below w2.heap.size w2 w') (fun v _ => m + 1 - (intOf v).toNat)
  case atStart => exact ⟨0, rfl, by omega, Below.refl _ _⟩
  case round =>
    obtain ⟨i, rfl, hi, hbw⟩ := hrel
    have hcw : ∀ i t, ts[i]? = some t → ∀ j, j < 11 → wr.cell? ⟨g, i * 11 + j, none⟩ = t.cells[j]? := fun i t hi j hj => (hbw.cell (p := ⟨g, i * 11 + j, none⟩) hg3).trans (HC.out i t hi j hj)
    have HCw : Hid _ := hcw
    clear hcw
    by_cases hlt : i < m + 1
    · have hlt' : (i : Int) < (m : Int) + 1 := by omega
      have hti : ts[i]? = some ts[i] := List.getElem?_eq_getElem (by omega)
      have hga := HG.out.at hti
      have hgn : ∀ j u, i = j + 1 → ts[j]? = some u → u.at' < ts[i].at' := fun j u e hu => HG.out.next hu (by rw [← e]; exact hti)
      have x0 : wr.cell? ⟨g, i * 11, none⟩ = some (.int .i64 ts[i].kind) := HCw.out i _ hti 0 (by decide)
      have x1 : wr.cell? ⟨g, i * 11 + 1, none⟩ = some (.int .i64 ts[i].at') := HCw.out i _ hti 1 (by decide)
      revert x0 x1 hga hgn
      generalize ts[i] = t
      intro hga hgn x0 x1
      obtain ⟨ha1, ha2, hga⟩ := hga
      have hat0 : ¬ t.at' < 0 := by omega
      have hat1 : ¬ (s.size : Int) < t.at' := by omega
      have hat0' : decide (t.at' < 0) = false := by simpa using hat0
      have hat1' : decide ((s.size : Int) < t.at') = false := by simpa using hat1
      cases i with
      | zero =>
        clear hgn
        have hi0 : ¬ (0 : Int) < ((0 : Nat) : Int) := by omega
        rw [Nat.zero_mul] at x0 x1
        rw [Nat.zero_add] at x1
        rcases hga with ⟨hl, hk | ⟨hk, hk2⟩⟩ | ⟨hl, hk8, hk0⟩
        · have hL2 : ((0 : Int) == (m : Int)) = true := by simp; omega
          rw [hk] at x0
          go_wp2
          go_big_quiet (fail)
          go_wp2
          refine ⟨?_, ?_⟩
          · iterate 66 (apply Exists.intro)
            refine ⟨?_, rfl⟩
            exact ⟨0 + 1, by go_num, by omega, bdrewN hbw _⟩
          · first | (simp [intOf]; done) | (simp [intOf]; omega)
        · have hL2 : ((0 : Int) == (m : Int)) = true := by simp; omega
          clear hk2
          rw [hk] at x0
          go_wp2
          go_big_quiet (fail)
          go_wp2
          refine ⟨?_, ?_⟩
          · iterate 66 (apply Exists.intro)
            refine ⟨?_, rfl⟩
            exact ⟨0 + 1, by go_num, by omega, bdrewN hbw _⟩
          · first | (simp [intOf]; done) | (simp [intOf]; omega)
        · have hL : ¬ (0 : Int) = (m : Int) := by omega
          have hL2 : ((0 : Int) == (m : Int)) = false := by simpa using hL
          have hk0' : (t.kind == 0) = false := by simpa using hk0
          have hk8' : (t.kind == 8) = false := by simpa using hk8
          go_wp2
          go_big_quiet (fail)
          go_wp2
          refine ⟨?_, ?_⟩
          · iterate 66 (apply Exists.intro)
            refine ⟨?_, rfl⟩
            exact ⟨0 + 1, by go_num, by omega, bdrewN hbw _⟩
          · first | (simp [intOf]; done) | (simp [intOf]; omega)
      | succ k =>
        have htk : ts[k]? = some ts[k] := List.getElem?_eq_getElem (by omega)
        have hnx := hgn k _ rfl htk
        have z1 : wr.cell? ⟨g, k * 11 + 1, none⟩ = some (.int .i64 ts[k].at') := HCw.out k _ htk 1 (by decide)
        clear hgn htk
        revert z1 hnx
        generalize ts[k] = u
        intro hnx z1
        have hle : ¬ t.at' ≤ u.at' := by omega
        have hle' : decide (t.at' ≤ u.at') = false := by simpa using hle
        have hi0 : (0 : Int) < (k : Int) + 1 := by omega
        have hwk : IntKind.i64.wrap (k : Int) = (k : Int) := by rw [IntKind.wrap_i64]; omega
        rcases hga with ⟨hl, hk | ⟨hk, hk2⟩⟩ | ⟨hl, hk8, hk0⟩
        · have hL2 : ((k + 1 : Int) == (m : Int)) = true := by simp; omega
          rw [hk] at x0
          go_wp2
          go_big_quiet (fail)
          go_wp2
          refine ⟨?_, ?_⟩
          · iterate 66 (apply Exists.intro)
            refine ⟨?_, rfl⟩
            exact ⟨k + 1 + 1, by go_num, by omega, bdrewN hbw _⟩
          · first | (simp [intOf]; done) | (simp [intOf]; omega)
        · have hL2 : ((k + 1 : Int) == (m : Int)) = true := by simp; omega
          clear hk2
          rw [hk] at x0
          go_wp2
          go_big_quiet (fail)
          go_wp2
          refine ⟨?_, ?_⟩
          · iterate 66 (apply Exists.intro)
            refine ⟨?_, rfl⟩
            exact ⟨k + 1 + 1, by go_num, by omega, bdrewN hbw _⟩
          · first | (simp [intOf]; done) | (simp [intOf]; omega)
        · have hL : ¬ (k + 1 : Int) = (m : Int) := by omega
          have hL2 : ((k + 1 : Int) == (m : Int)) = false := by simpa using hL
          have hk0' : (t.kind == 0) = false := by simpa using hk0
          have hk8' : (t.kind == 8) = false := by simpa using hk8
          go_wp2
          go_big_quiet (fail)
          go_wp2
          refine ⟨?_, ?_⟩
          · iterate 66 (apply Exists.intro)
            refine ⟨?_, rfl⟩
            exact ⟨k + 1 + 1, by go_num, by omega, bdrewN hbw _⟩
          · first | (simp [intOf]; done) | (simp [intOf]; omega)
    · have hlt' : ¬ (i : Int) < (m : Int) + 1 := by omega
      have htm : ts[m]? = some ts[m] := List.getElem?_eq_getElem (by omega)
      have hgl := (HG.out.at htm).2.2
      have y0 : wr.cell? ⟨g, m * 11, none⟩ = some (.int .i64 ts[m].kind) := HCw.out m _ htm 0 (by decide)
      have y1 : wr.cell? ⟨g, m * 11 + 1, none⟩ = some (.int .i64 ts[m].at') := HCw.out m _ htm 1 (by decide)
      have y2 : wr.cell? ⟨g, m * 11 + 2, none⟩ = some (.int .i64 ts[m].num) := HCw.out m _ htm 2 (by decide)
      have y3 : wr.cell? ⟨g, m * 11 + 3, none⟩ = some (.string ts[m].str) := HCw.out m _ htm 3 (by decide)
      have y4 : wr.cell? ⟨g, m * 11 + 4, none⟩ = some (.int .i64 ts[m].c0) := HCw.out m _ htm 4 (by decide)
      have y5 : wr.cell? ⟨g, m * 11 + 5, none⟩ = some (.int .i64 ts[m].c1) := HCw.out m _ htm 5 (by decide)
      have y6 : wr.cell? ⟨g, m * 11 + 6, none⟩ = some (.int .i64 ts[m].r0) := HCw.out m _ htm 6 (by decide)
      have y7 : wr.cell? ⟨g, m * 11 + 7, none⟩ = some (.int .i64 ts[m].r1) := HCw.out m _ htm 7 (by decide)
      have y8 : wr.cell? ⟨g, m * 11 + 8, none⟩ = some (.int .i64 ts[m].r2) := HCw.out m _ htm 8 (by decide)
      have y9 : wr.cell? ⟨g, m * 11 + 9, none⟩ = some (.int .i64 ts[m].r3) := HCw.out m _ htm 9 (by decide)
      have y10 : wr.cell? ⟨g, m * 11 + 10, none⟩ = some (.int .i64 ts[m].code) := HCw.out m _ htm 10 (by decide)
      have HBn : Hid (Below w.heap.size w wr) := bup hB2 hbw
      clear htm hi
      revert y0 y1 y2 y3 y4 y5 y6 y7 y8 y9 y10 hgl
      generalize ts[m] = t
      intro hgl y0 y1 y2 y3 y4 y5 y6 y7 y8 y9 y10
      rcases hgl with ⟨hl0, hk | ⟨hk, hk2⟩⟩ | ⟨hk, _⟩
      · rw [hk] at y0
        clear hk hl0
        go_wp2
        go_ret
        have hBn := HBn.out
        have hzn := hBn.size
        exact ⟨rfl, by with_reducible (repeat' first | assumption | exact Below.refl _ _ | refine Below.drew ?_ | refine Below.setCell ?_ (by first | exact Nat.le_refl _ | (simp; done) | (simp; omega) | omega) _ | refine Below.alloc ?_ (by first | exact Nat.le_refl _ | (simp; done) | (simp; omega) | omega) _)⟩
      · rw [hk] at y0
        rw [hk2] at y1
        clear hk hk2 hl0
        go_wp2
        go_ret
        have hBn := HBn.out
        have hzn := hBn.size
        exact ⟨rfl, by with_reducible (repeat' first | assumption | exact Below.refl _ _ | refine Below.drew ?_ | refine Below.setCell ?_ (by first | exact Nat.le_refl _ | (simp; done) | (simp; omega) | omega) _ | refine Below.alloc ?_ (by first | exact Nat.le_refl _ | (simp; done) | (simp; omega) | omega) _)⟩
      · omega
end Go.Proofs.YtaamphdihmghhaaDoor
