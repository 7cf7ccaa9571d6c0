/- The document's Parse of any text: the ways put together, in the words of dec.Parse's. Nothing is written. -/
import Derived.Test.YtaamphdihmghhaaGreatDoorQDcRDigitsDcRValDcRParseM
import Derived.Test.YtaamphdihmghhaaGreatDoorQDcRParseN
import Derived.Test.YtaamphdihmghhaaGreatDoorQDcRParseP
namespace Go.Proofs.YtaamphdihmghhaaGreatDoor.Dc
open Go.Shelf Go.RowKit
set_option linter.unusedVariables false
theorem run_exists (s : ByteArray) : ∀ (m a : Nat), a ≤ s.size → s.size - a ≤ m → ∃ k, DigRun s a k
  | 0, a, ha, hm => ⟨0, by omega, fun k _ hk => absurd hk (by omega), fun h => absurd h (by omega)⟩
  | m + 1, a, ha, hm => by
    by_cases h : a < s.size
    · cases hd : isDig s[a] with
      | false => exact ⟨0, by omega, fun k _ hk => absurd hk (by omega), fun _ => hd⟩
      | true =>
        obtain ⟨k, r⟩ := run_exists s m (a + 1) (by omega) (by omega)
        refine ⟨k + 1, by have := r.le; omega, fun i hi hik => ?_, fun hc => ?_⟩
        · by_cases h0 : i = 0
          · subst h0; exact hd
          · have := r.all (i - 1) (by omega) (by omega)
            simp only [show a + 1 + (i - 1) = a + i by omega] at this
            exact this
        · have := r.stop (by omega)
          simp only [show a + 1 + k = a + (k + 1) by omega] at this
          exact this
    · exact ⟨0, by omega, fun k _ hk => absurd hk (by omega), fun hc => absurd hc (by omega)⟩
theorem run_one {s : ByteArray} {a n m : Nat} (h : DigRun s a n) (h' : DigRun s a m) : n = m := by
  have l1 := h.le; have l2 := h'.le
  by_cases h1 : n < m
  · have x := h.stop (by omega); have y := h'.all n (by omega) h1; rw [x] at y; cases y
  by_cases h2 : m < n
  · have x := h'.stop (by omega); have y := h.all m (by omega) h2; rw [x] at y; cases y
  · omega
theorem dig_at {s : ByteArray} {a k : Nat} (x : Int) (hx : x = a) (hs : s.size ≤ maxLen) (ha : a ≤ s.size) (h : DigRun s a k) : DigAt s x k := by
  subst hx
  intro w
  exact (digits_walk s a w hs ha).mono fun e w' ⟨⟨n, he, hn⟩, hw⟩ => ⟨by rw [he, run_one hn h], hw⟩
theorem neg_yes {s : ByteArray} (h : negS s = true) : ∃ hz : 0 < s.size, s[0].toNat = 45 := by
  have hz := neg_size h
  refine ⟨by omega, ?_⟩
  unfold negS Lib.hasPrefix at h
  have hl : s.data.toList[0]? = some s[0] := list_at (by omega)
  cases hd : s.data.toList with
  | nil => rw [hd] at hl; cases hl
  | cons x l =>
    rw [hd] at hl h
    have hx : x = s[0] := Option.some.inj hl
    have : x = 45 := by simp [List.isPrefixOf] at h; exact h.symm
    rw [← hx, this]; rfl
theorem neg_no {s : ByteArray} (h : negS s = false) : s.size = 0 ∨ ∃ hz : 0 < s.size, s[0].toNat ≠ 45 := by
  by_cases hz : s.size = 0
  · exact .inl hz
  · refine .inr ⟨by omega, fun he => ?_⟩
    unfold negS Lib.hasPrefix at h
    have hl : s.data.toList[0]? = some s[0] := list_at (by omega)
    have he' : s[0] = 45 := UInt8.toNat_inj.1 he
    cases hd : s.data.toList with
    | nil => rw [hd] at hl; cases hl
    | cons x l =>
      rw [hd] at hl h
      have hx : x = s[0] := Option.some.inj hl
      rw [hx, he'] at h
      simp [List.isPrefixOf] at h
/-- What stands ahead of the point is the run of digits; or it is no digits alone. -/
theorem cut_shape {d : ByteArray} {k : Nat} (r : Run d k) (h : d.size ≤ k ∨ ∃ h : k < d.size, d[k].toNat = 46) : cutA d = d.extract 0 k := by
  rcases h with h | ⟨h1, h2⟩
  · rw [(run_end r h).2.1]
    apply ByteArray.ext
    rw [ByteArray.data_extract]
    apply Array.ext'
    rw [Array.toList_extract, List.extract_eq_take_drop]
    have hl : d.data.toList.length = d.size := rfl
    simp only [List.drop_zero, Nat.sub_zero]
    rw [List.take_of_length_le (by rw [hl]; exact h)]
  · exact (run_dot r h1 h2).2.1
theorem shape_digs {d : ByteArray} {k : Nat} (r : Run d k) (he : cutA d = d.extract 0 k) : digsB (cutA d) 15 = (decide (1 ≤ k) && decide (k ≤ 15)) := by
  have hs := size_extract0 d k r.le
  have ha : allDig (d.extract 0 k) = true := by unfold allDig; rw [list_extract0]; exact run_all r
  rw [he]; unfold digsB; rw [hs, ha, Bool.and_true]
  congr 1
  by_cases h : k ≤ 15
  · rw [decide_eq_true h, decide_eq_true (by omega)]
  · rw [decide_eq_false h, decide_eq_false (by omega)]
theorem shape_lead {d : ByteArray} {k : Nat} (r : Run d k) (he : cutA d = d.extract 0 k) (hk : 1 ≤ k) (h0 : 0 < d.size) : lead0 (cutA d) = (decide (1 < k) && (d[0].toNat == 48)) := by
  have hs := size_extract0 d k r.le
  rw [he]
  have hx : (d.extract 0 k).data.toList[0]? = some d[0] := by rw [list_extract0, List.getElem?_take, if_pos (by omega), list_at h0]
  unfold lead0
  by_cases h : 1 < (d.extract 0 k).size
  · rw [dif_pos h, decide_eq_true (show 1 < k by omega), Bool.true_and]
    have : (d.extract 0 k)[0] = d[0] := by
      have := list_at (d := d.extract 0 k) (i := 0) (by omega)
      rw [hx] at this; exact (Option.some.inj this).symm
    rw [this]
  · rw [dif_neg h, decide_eq_false (by omega), Bool.false_and]
theorem shape_val {s d : ByteArray} {a k : Nat} (r : Run d k) (he : cutA d = d.extract 0 k) (hsz : d.size + a = s.size) (hat : ∀ i, (h : i < d.size) → (h' : a + i < s.size) → d[i] = s[a + i]) : cnt (cutA d).data.toList = val s a k := by
  rw [he, list_extract0, cnt_val d k r.le, val_shift hsz hat k r.le]
theorem rbad {s : ByteArray} {w : World} (h : parseOk s = false) (c : Calls Tryz.prog 32 #[.string s] w fun e w' => e = .returned (.tuple #[.int .i64 0, .bool false]) ∧ w' = w) :
    Calls Tryz.prog 32 #[.string s] w fun e w' => e = .returned (.tuple #[.int .i64 (parseV s), .bool (parseOk s)]) ∧ w' = w := by
  have e : parseV s = 0 := by unfold parseV; rw [h]; rfl
  rw [h, e]; exact c
theorem rgood {s : ByteArray} {w : World} {x : Int} (h : parseOk s = true) (hx : x = if negS s then -(partsN (dgS s) : Int) else partsN (dgS s)) (c : Calls Tryz.prog 32 #[.string s] w fun e w' => e = .returned (.tuple #[.int .i64 x, .bool true]) ∧ w' = w) :
    Calls Tryz.prog 32 #[.string s] w fun e w' => e = .returned (.tuple #[.int .i64 (parseV s), .bool (parseOk s)]) ∧ w' = w := by
  have e : parseV s = x := by unfold parseV; rw [h, hx]; rfl
  rw [h, e]; exact c
theorem rparse_neg (s d : ByteArray) (w : World) (hs : s.size ≤ maxLen) (hn : negS s = true) (hdg : dgS s = d) (hsz : d.size + 1 = s.size) (hat : ∀ i, (h : i < d.size) → (h' : 1 + i < s.size) → d[i] = s[1 + i]) : Calls Tryz.prog 32 #[.string s] w fun e w' => e = .returned (.tuple #[.int .i64 (parseV s), .bool (parseOk s)]) ∧ w' = w := by
  obtain ⟨hz0, h45⟩ := neg_yes hn
  obtain ⟨k, hrun⟩ := run_exists s s.size 1 (by omega) (by omega)
  have hdig : DigIs s 1 k := dig_at _ rfl hs (by omega) hrun
  have run : Run d k := ⟨by have := hrun.le; omega, fun i hi hik => by
      have := hrun.all i (by omega) hik; rw [← hat i hi (by omega)] at this; exact this, fun hc => by
      have := hrun.stop (by omega); rw [← hat k hc (by omega)] at this; exact this⟩
  have hrl := hrun.le
  -- no digits alone ahead of the point
  by_cases hnd : ∃ h : k < d.size, d[k].toNat ≠ 46
  · obtain ⟨hkd, hne⟩ := hnd
    have hda : digsB (cutA d) 15 = false := by unfold digsB; rw [run_nd run hkd hne, Bool.and_false]
    have bad := num_bad (by rw [hdg]; unfold numOk; rw [hda]; simp)
    by_cases hk0 : k < 1
    · exact rbad bad (rparse_k0_n s k w hs hz0 h45 hdig hrun hk0)
    by_cases hk16 : 15 < k
    · exact rbad bad (rparse_k16_n s k w hs hz0 h45 hdig hrun hk16 (by omega))
    have hdot : s[1 + k].toNat ≠ 46 := by rw [← hat k hkd (by omega)]; exact hne
    obtain ⟨r, hrun2⟩ := run_exists s s.size (1 + k + 1) (by omega) (by omega)
    have hdig2 : DigAt s (1 + (k : Int) + 1) r := dig_at _ (by omega) hs (by omega) hrun2
    by_cases hz : s[1].toNat = 48
    · by_cases hk1 : 1 < k
      · exact rbad bad (rparse_lead_n s k w hs hz0 h45 hdig hrun hk1 (by omega) (by omega) hz)
      · exact rbad bad (rparse_ndZ_n s k w hs hz0 h45 hdig hrun (by omega) (by omega) (by omega) hz (by omega) (by omega) r hdig2 hdot)
    · exact rbad bad (rparse_ndN_n s k w hs hz0 h45 hdig hrun (by omega) (by omega) (by omega) hz (by omega) r hdig2 hdot)
  have hsh0 : d.size ≤ k ∨ ∃ h : k < d.size, d[k].toNat = 46 := by
    by_cases h : k < d.size
    · refine .inr ⟨h, ?_⟩
      by_cases hc : d[k].toNat = 46
      · exact hc
      · exact absurd ⟨h, hc⟩ hnd
    · exact .inl (by omega)
  have hsh := cut_shape run hsh0
  have hdg15 := shape_digs run hsh
  by_cases hk0 : k < 1
  · exact rbad (num_bad (by rw [hdg]; unfold numOk; rw [hdg15, decide_eq_false (show ¬ 1 ≤ k by omega)]; simp)) (rparse_k0_n s k w hs hz0 h45 hdig hrun hk0)
  by_cases hk16 : 15 < k
  · exact rbad (num_bad (by rw [hdg]; unfold numOk; rw [hdg15, decide_eq_false (show ¬ k ≤ 15 by omega)]; simp)) (rparse_k16_n s k w hs hz0 h45 hdig hrun hk16 (by omega))
  rw [decide_eq_true (show 1 ≤ k by omega), decide_eq_true (show k ≤ 15 by omega)] at hdg15
  have hld := shape_lead run hsh (by omega) (by omega)
  have h0e : d[0] = s[1] := by have := hat 0 (by omega) (by omega); simpa using this
  have hval := shape_val run hsh hsz hat
  by_cases hlead : 1 < k ∧ s[1].toNat = 48
  · exact rbad (num_bad (by rw [hdg]; unfold numOk; rw [hdg15, hld, h0e, decide_eq_true hlead.1, hlead.2]; simp)) (rparse_lead_n s k w hs hz0 h45 hdig hrun hlead.1 (by omega) (by omega) hlead.2)
  have hld0 : lead0 (cutA d) = false := by
    rw [hld, h0e]
    by_cases h1 : 1 < k
    · have : s[1].toNat ≠ 48 := fun hc => hlead ⟨h1, hc⟩
      rw [decide_eq_true h1, beq_eq_false_iff_ne.2 this]; rfl
    · rw [decide_eq_false h1]; rfl
  by_cases hend : d.size ≤ k
  · obtain ⟨c1, c2, c3⟩ := run_end run hend
    have hnum : numOk d = true := by unfold numOk; rw [hdg15, hld0, c1]; rfl
    have hpv := parts_fv (s := s) (d := d) (a := 1) (k := k) (r := 0) (by rw [c3]; rfl) (by omega) (fun i h _ => absurd h (by rw [c3]; exact Nat.not_lt_zero _)) (.inl rfl) hval
    by_cases hz : s[1].toNat = 48
    · have hP : partsN d = fv (val s 1 k) s (1 + k + 1) 0 4 := hpv
      by_cases hbig : 9223372036854775807 < fv (val s 1 k) s (1 + k + 1) 0 4
      · exact rbad (by unfold parseOk; rw [hdg, hnum, hP, decide_eq_false (by omega)]; rfl) (rparse_EZbig_n s k w hs hz0 h45 hdig hrun (by omega) (by omega) (by omega) hz (by omega) (by omega) hbig)
      by_cases hzero : fv (val s 1 k) s (1 + k + 1) 0 4 = 0
      · exact rbad (by unfold parseOk; rw [hdg, hnum, hn, hP, decide_eq_true hzero]; simp) (rparse_EZzero_n s k w hs hz0 h45 hdig hrun (by omega) (by omega) (by omega) hz (by omega) (by omega) hzero)
      · exact rgood (by unfold parseOk; rw [hdg, hnum, hn, hP, decide_eq_true (show fv (val s 1 k) s (1 + k + 1) 0 4 ≤ 9223372036854775807 by omega), decide_eq_false hzero]; rfl) (by rw [hdg, hn, hP]; rfl) (rparse_EZgood_n s k w hs hz0 h45 hdig hrun (by omega) (by omega) (by omega) hz (by omega) (by omega) (by omega) (by omega))
    · have hP : partsN d = fv (val s 1 k) s (1 + k + 1) 0 4 := hpv
      by_cases hbig : 9223372036854775807 < fv (val s 1 k) s (1 + k + 1) 0 4
      · exact rbad (by unfold parseOk; rw [hdg, hnum, hP, decide_eq_false (by omega)]; rfl) (rparse_ENbig_n s k w hs hz0 h45 hdig hrun (by omega) (by omega) (by omega) hz (by omega) hbig)
      by_cases hzero : fv (val s 1 k) s (1 + k + 1) 0 4 = 0
      · exact rbad (by unfold parseOk; rw [hdg, hnum, hn, hP, decide_eq_true hzero]; simp) (rparse_ENzero_n s k w hs hz0 h45 hdig hrun (by omega) (by omega) (by omega) hz (by omega) hzero)
      · exact rgood (by unfold parseOk; rw [hdg, hnum, hn, hP, decide_eq_true (show fv (val s 1 k) s (1 + k + 1) 0 4 ≤ 9223372036854775807 by omega), decide_eq_false hzero]; rfl) (by rw [hdg, hn, hP]; rfl) (rparse_ENgood_n s k w hs hz0 h45 hdig hrun (by omega) (by omega) (by omega) hz (by omega) (by omega) (by omega))
  have hkd : k < d.size := by omega
  have hdot' : d[k].toNat = 46 := by
    by_cases hc : d[k].toNat = 46
    · exact hc
    · exact absurd ⟨hkd, hc⟩ hnd
  have hdot : s[1 + k].toNat = 46 := by rw [← hat k hkd (by omega)]; exact hdot'
  obtain ⟨c1, c2, c3⟩ := run_dot run hkd hdot'
  obtain ⟨r, hrun2⟩ := run_exists s s.size (1 + k + 1) (by omega) (by omega)
  have hdig2 : DigAt s (1 + (k : Int) + 1) r := dig_at _ (by omega) hs (by omega) hrun2
  have hr2l := hrun2.le
  have hBs : (cutB d).size = d.size - (k + 1) := by rw [c3, ByteArray.size_extract]; omega
  have hBat : ∀ i, (h : i < (cutB d).size) → (h' : 1 + k + 1 + i < s.size) → (cutB d)[i] = s[1 + k + 1 + i] := fun i h h' => by
    have e1 : (cutB d).data.toList[i]? = some (cutB d)[i] := list_at h
    have e2 : (cutB d).data.toList[i]? = some d[k + 1 + i] := by
      rw [c3, ByteArray.data_extract, Array.toList_extract, List.extract_eq_take_drop, List.getElem?_take, if_pos (by omega), List.getElem?_drop]
      exact list_at (by omega)
    have e3 := Option.some.inj (e1.symm.trans e2)
    rw [e3, hat (k + 1 + i) (by omega) (by omega)]
    congr 1
    omega
  by_cases hrb : r < 1 ∨ 4 < r ∨ 1 + k + 1 + r < s.size
  · have hB : digsB (cutB d) 4 = false := by
      rcases hrb with h | h | h
      · by_cases h9 : (cutB d).size < 1
        · unfold digsB; rw [decide_eq_false (by omega)]; rfl
        · obtain rfl : r = 0 := by omega
          have hst := hrun2.stop (by omega)
          have := all_false (s := cutB d) (k := 0) (by omega) (by rw [hBat 0 (by omega) (by omega)]; exact hst)
          unfold digsB; rw [this, Bool.and_false]
      · unfold digsB; rw [decide_eq_false (show ¬ ((cutB d).size : Int) ≤ 4 by omega)]; simp
      · have hst := hrun2.stop h
        have := all_false (s := cutB d) (k := r) (by omega) (by rw [hBat r (by omega) (by omega)]; exact hst)
        unfold digsB; rw [this, Bool.and_false]
    have bad := num_bad (by rw [hdg]; unfold numOk; rw [hdg15, hld0, c1, hB]; simp)
    by_cases hz : s[1].toNat = 48
    · exact rbad bad (rparse_rZ_n s k w hs hz0 h45 hdig hrun (by omega) (by omega) (by omega) hz (by omega) (by omega) r hdig2 hdot hrb hr2l)
    · exact rbad bad (rparse_rN_n s k w hs hz0 h45 hdig hrun (by omega) (by omega) (by omega) hz (by omega) r hdig2 hdot hrb hr2l)
  have hBr : (cutB d).size = r := by omega
  have hBd : allDig (cutB d) = true := by
    unfold allDig
    rw [List.all_eq_true]
    intro y hy
    obtain ⟨i, hi, rfl⟩ := List.mem_iff_getElem.1 hy
    have hi' : i < (cutB d).size := by simpa using hi
    have : (cutB d).data.toList[i] = (cutB d)[i] := rfl
    rw [this, hBat i hi' (by omega)]
    exact hrun2.all i (by omega) (by omega)
  have hB : digsB (cutB d) 4 = true := by unfold digsB; rw [hBd, decide_eq_true (show 1 ≤ (cutB d).size by omega), decide_eq_true (show ((cutB d).size : Int) ≤ 4 by omega)]; rfl
  have hnum : numOk d = true := by unfold numOk; rw [hdg15, hld0, c1, hB]; rfl
  have hpv := parts_fv (s := s) (d := d) (a := 1) (k := k) (r := r) hBr (by omega) hBat (.inr (by omega)) hval
  by_cases hz : s[1].toNat = 48
  · have hP : partsN d = fv (val s 1 k) s (1 + k + 1) r 4 := hpv
    by_cases hbig : 9223372036854775807 < fv (val s 1 k) s (1 + k + 1) r 4
    · exact rbad (by unfold parseOk; rw [hdg, hnum, hP, decide_eq_false (by omega)]; rfl) (rparse_okZbig_n s k w hs hz0 h45 hdig hrun (by omega) (by omega) (by omega) hz (by omega) (by omega) r hdig2 hdot (by omega) (by omega) (by omega) hr2l hrun2.all hbig)
    by_cases hzero : fv (val s 1 k) s (1 + k + 1) r 4 = 0
    · exact rbad (by unfold parseOk; rw [hdg, hnum, hn, hP, decide_eq_true hzero]; simp) (rparse_okZzero_n s k w hs hz0 h45 hdig hrun (by omega) (by omega) (by omega) hz (by omega) (by omega) r hdig2 hdot (by omega) (by omega) (by omega) hr2l hrun2.all hzero)
    · exact rgood (by unfold parseOk; rw [hdg, hnum, hn, hP, decide_eq_true (show fv (val s 1 k) s (1 + k + 1) r 4 ≤ 9223372036854775807 by omega), decide_eq_false hzero]; rfl) (by rw [hdg, hn, hP]; rfl) (rparse_okZgood_n s k w hs hz0 h45 hdig hrun (by omega) (by omega) (by omega) hz (by omega) (by omega) r hdig2 hdot (by omega) (by omega) (by omega) hr2l hrun2.all (by omega) (by omega))
  · have hP : partsN d = fv (val s 1 k) s (1 + k + 1) r 4 := hpv
    by_cases hbig : 9223372036854775807 < fv (val s 1 k) s (1 + k + 1) r 4
    · exact rbad (by unfold parseOk; rw [hdg, hnum, hP, decide_eq_false (by omega)]; rfl) (rparse_okNbig_n s k w hs hz0 h45 hdig hrun (by omega) (by omega) (by omega) hz (by omega) r hdig2 hdot (by omega) (by omega) (by omega) hr2l hrun2.all hbig)
    by_cases hzero : fv (val s 1 k) s (1 + k + 1) r 4 = 0
    · exact rbad (by unfold parseOk; rw [hdg, hnum, hn, hP, decide_eq_true hzero]; simp) (rparse_okNzero_n s k w hs hz0 h45 hdig hrun (by omega) (by omega) (by omega) hz (by omega) r hdig2 hdot (by omega) (by omega) (by omega) hr2l hrun2.all hzero)
    · exact rgood (by unfold parseOk; rw [hdg, hnum, hn, hP, decide_eq_true (show fv (val s 1 k) s (1 + k + 1) r 4 ≤ 9223372036854775807 by omega), decide_eq_false hzero]; rfl) (by rw [hdg, hn, hP]; rfl) (rparse_okNgood_n s k w hs hz0 h45 hdig hrun (by omega) (by omega) (by omega) hz (by omega) r hdig2 hdot (by omega) (by omega) (by omega) hr2l hrun2.all (by omega) (by omega))
theorem rparse_pos (s d : ByteArray) (w : World) (hs : s.size ≤ maxLen) (hn : negS s = false) (hdg : dgS s = d) (hsz : d.size + 0 = s.size) (hat : ∀ i, (h : i < d.size) → (h' : i < s.size) → d[i] = s[i]) : Calls Tryz.prog 32 #[.string s] w fun e w' => e = .returned (.tuple #[.int .i64 (parseV s), .bool (parseOk s)]) ∧ w' = w := by
  by_cases he : s.size ≤ 0
  · have hr0 : DigRun s 0 0 := ⟨by omega, fun k _ hk => absurd hk (by omega), fun h => absurd h (by omega)⟩
    have hd0 : d.size = 0 := by omega
    have hb : digsB (cutA d) 15 = false := by unfold digsB; rw [decide_eq_false (by have := cutA_le d; omega)]; rfl
    exact rbad (num_bad (by rw [hdg]; unfold numOk; rw [hb]; simp)) (rparse_empty_p s w he (dig_at _ rfl hs (by omega) hr0))
  obtain ⟨hz0, h45⟩ : ∃ hz : 0 < s.size, s[0].toNat ≠ 45 := by
    rcases neg_no hn with h | h
    · omega
    · exact h
  obtain ⟨k, hrun⟩ := run_exists s s.size 0 (by omega) (by omega)
  have hdig : DigIs s 0 k := dig_at _ rfl hs (by omega) hrun
  have run : Run d k := ⟨by have := hrun.le; omega, fun i hi hik => by
      have := hrun.all i (by omega) hik; simp only [Nat.zero_add] at this; rw [← hat i hi (by omega)] at this; exact this, fun hc => by
      have := hrun.stop (by omega); simp only [Nat.zero_add] at this; rw [← hat k hc (by omega)] at this; exact this⟩
  have hrl := hrun.le
  -- no digits alone ahead of the point
  by_cases hnd : ∃ h : k < d.size, d[k].toNat ≠ 46
  · obtain ⟨hkd, hne⟩ := hnd
    have hda : digsB (cutA d) 15 = false := by unfold digsB; rw [run_nd run hkd hne, Bool.and_false]
    have bad := num_bad (by rw [hdg]; unfold numOk; rw [hda]; simp)
    by_cases hk0 : k < 1
    · exact rbad bad (rparse_k0_p s k w hs hz0 h45 hdig hrun hk0)
    by_cases hk16 : 15 < k
    · exact rbad bad (rparse_k16_p s k w hs hz0 h45 hdig hrun hk16 (by omega))
    have hdot : s[k].toNat ≠ 46 := by rw [← hat k hkd (by omega)]; exact hne
    obtain ⟨r, hrun2⟩ := run_exists s s.size (k + 1) (by omega) (by omega)
    have hdig2 : DigAt s ((k : Int) + 1) r := dig_at _ (by omega) hs (by omega) hrun2
    by_cases hz : s[0].toNat = 48
    · by_cases hk1 : 1 < k
      · exact rbad bad (rparse_lead_p s k w hs hz0 h45 hdig hrun hk1 (by omega) (by omega) hz)
      · exact rbad bad (rparse_ndZ_p s k w hs hz0 h45 hdig hrun (by omega) (by omega) (by omega) hz (by omega) (by omega) r hdig2 hdot)
    · exact rbad bad (rparse_ndN_p s k w hs hz0 h45 hdig hrun (by omega) (by omega) (by omega) hz (by omega) r hdig2 hdot)
  have hsh0 : d.size ≤ k ∨ ∃ h : k < d.size, d[k].toNat = 46 := by
    by_cases h : k < d.size
    · refine .inr ⟨h, ?_⟩
      by_cases hc : d[k].toNat = 46
      · exact hc
      · exact absurd ⟨h, hc⟩ hnd
    · exact .inl (by omega)
  have hsh := cut_shape run hsh0
  have hdg15 := shape_digs run hsh
  by_cases hk0 : k < 1
  · exact rbad (num_bad (by rw [hdg]; unfold numOk; rw [hdg15, decide_eq_false (show ¬ 1 ≤ k by omega)]; simp)) (rparse_k0_p s k w hs hz0 h45 hdig hrun hk0)
  by_cases hk16 : 15 < k
  · exact rbad (num_bad (by rw [hdg]; unfold numOk; rw [hdg15, decide_eq_false (show ¬ k ≤ 15 by omega)]; simp)) (rparse_k16_p s k w hs hz0 h45 hdig hrun hk16 (by omega))
  rw [decide_eq_true (show 1 ≤ k by omega), decide_eq_true (show k ≤ 15 by omega)] at hdg15
  have hld := shape_lead run hsh (by omega) (by omega)
  have h0e : d[0] = s[0] := by have := hat 0 (by omega) (by omega); simpa using this
  have hval := shape_val (a := 0) run hsh hsz (fun i h h' => by simp only [Nat.zero_add]; exact hat i h (by omega))
  by_cases hlead : 1 < k ∧ s[0].toNat = 48
  · exact rbad (num_bad (by rw [hdg]; unfold numOk; rw [hdg15, hld, h0e, decide_eq_true hlead.1, hlead.2]; simp)) (rparse_lead_p s k w hs hz0 h45 hdig hrun hlead.1 (by omega) (by omega) hlead.2)
  have hld0 : lead0 (cutA d) = false := by
    rw [hld, h0e]
    by_cases h1 : 1 < k
    · have : s[0].toNat ≠ 48 := fun hc => hlead ⟨h1, hc⟩
      rw [decide_eq_true h1, beq_eq_false_iff_ne.2 this]; rfl
    · rw [decide_eq_false h1]; rfl
  by_cases hend : d.size ≤ k
  · obtain ⟨c1, c2, c3⟩ := run_end run hend
    have hnum : numOk d = true := by unfold numOk; rw [hdg15, hld0, c1]; rfl
    have hpv := parts_fv (s := s) (d := d) (a := 0) (k := k) (r := 0) (by rw [c3]; rfl) (by omega) (fun i h _ => absurd h (by rw [c3]; exact Nat.not_lt_zero _)) (.inl rfl) hval
    simp only [Nat.zero_add] at hpv
    by_cases hz : s[0].toNat = 48
    · have hP : partsN d = fv (val s 0 k) s (k + 1) 0 4 := hpv
      by_cases hbig : 9223372036854775807 < fv (val s 0 k) s (k + 1) 0 4
      · exact rbad (by unfold parseOk; rw [hdg, hnum, hP, decide_eq_false (by omega)]; rfl) (rparse_EZbig_p s k w hs hz0 h45 hdig hrun (by omega) (by omega) (by omega) hz (by omega) (by omega) hbig)
      exact rgood (by unfold parseOk; rw [hdg, hnum, hn, hP, decide_eq_true (show fv (val s 0 k) s (k + 1) 0 4 ≤ 9223372036854775807 by omega)]; rfl) (by rw [hdg, hn, hP]; rfl) (rparse_EZgood_p s k w hs hz0 h45 hdig hrun (by omega) (by omega) (by omega) hz (by omega) (by omega) (by omega))
    · have hP : partsN d = fv (val s 0 k) s (k + 1) 0 4 := hpv
      by_cases hbig : 9223372036854775807 < fv (val s 0 k) s (k + 1) 0 4
      · exact rbad (by unfold parseOk; rw [hdg, hnum, hP, decide_eq_false (by omega)]; rfl) (rparse_ENbig_p s k w hs hz0 h45 hdig hrun (by omega) (by omega) (by omega) hz (by omega) hbig)
      exact rgood (by unfold parseOk; rw [hdg, hnum, hn, hP, decide_eq_true (show fv (val s 0 k) s (k + 1) 0 4 ≤ 9223372036854775807 by omega)]; rfl) (by rw [hdg, hn, hP]; rfl) (rparse_ENgood_p s k w hs hz0 h45 hdig hrun (by omega) (by omega) (by omega) hz (by omega) (by omega))
  have hkd : k < d.size := by omega
  have hdot' : d[k].toNat = 46 := by
    by_cases hc : d[k].toNat = 46
    · exact hc
    · exact absurd ⟨hkd, hc⟩ hnd
  have hdot : s[k].toNat = 46 := by rw [← hat k hkd (by omega)]; exact hdot'
  obtain ⟨c1, c2, c3⟩ := run_dot run hkd hdot'
  obtain ⟨r, hrun2⟩ := run_exists s s.size (k + 1) (by omega) (by omega)
  have hdig2 : DigAt s ((k : Int) + 1) r := dig_at _ (by omega) hs (by omega) hrun2
  have hr2l := hrun2.le
  have hBs : (cutB d).size = d.size - (k + 1) := by rw [c3, ByteArray.size_extract]; omega
  have hBat : ∀ i, (h : i < (cutB d).size) → (h' : k + 1 + i < s.size) → (cutB d)[i] = s[k + 1 + i] := fun i h h' => by
    have e1 : (cutB d).data.toList[i]? = some (cutB d)[i] := list_at h
    have e2 : (cutB d).data.toList[i]? = some d[k + 1 + i] := by
      rw [c3, ByteArray.data_extract, Array.toList_extract, List.extract_eq_take_drop, List.getElem?_take, if_pos (by omega), List.getElem?_drop]
      exact list_at (by omega)
    have e3 := Option.some.inj (e1.symm.trans e2)
    rw [e3, hat (k + 1 + i) (by omega) (by omega)]
  by_cases hrb : r < 1 ∨ 4 < r ∨ k + 1 + r < s.size
  · have hB : digsB (cutB d) 4 = false := by
      rcases hrb with h | h | h
      · by_cases h9 : (cutB d).size < 1
        · unfold digsB; rw [decide_eq_false (by omega)]; rfl
        · obtain rfl : r = 0 := by omega
          have hst := hrun2.stop (by omega)
          have := all_false (s := cutB d) (k := 0) (by omega) (by rw [hBat 0 (by omega) (by omega)]; exact hst)
          unfold digsB; rw [this, Bool.and_false]
      · unfold digsB; rw [decide_eq_false (show ¬ ((cutB d).size : Int) ≤ 4 by omega)]; simp
      · have hst := hrun2.stop h
        have := all_false (s := cutB d) (k := r) (by omega) (by rw [hBat r (by omega) (by omega)]; exact hst)
        unfold digsB; rw [this, Bool.and_false]
    have bad := num_bad (by rw [hdg]; unfold numOk; rw [hdg15, hld0, c1, hB]; simp)
    by_cases hz : s[0].toNat = 48
    · exact rbad bad (rparse_rZ_p s k w hs hz0 h45 hdig hrun (by omega) (by omega) (by omega) hz (by omega) (by omega) r hdig2 hdot hrb hr2l)
    · exact rbad bad (rparse_rN_p s k w hs hz0 h45 hdig hrun (by omega) (by omega) (by omega) hz (by omega) r hdig2 hdot hrb hr2l)
  have hBr : (cutB d).size = r := by omega
  have hBd : allDig (cutB d) = true := by
    unfold allDig
    rw [List.all_eq_true]
    intro y hy
    obtain ⟨i, hi, rfl⟩ := List.mem_iff_getElem.1 hy
    have hi' : i < (cutB d).size := by simpa using hi
    have : (cutB d).data.toList[i] = (cutB d)[i] := rfl
    rw [this, hBat i hi' (by omega)]
    exact hrun2.all i (by omega) (by omega)
  have hB : digsB (cutB d) 4 = true := by unfold digsB; rw [hBd, decide_eq_true (show 1 ≤ (cutB d).size by omega), decide_eq_true (show ((cutB d).size : Int) ≤ 4 by omega)]; rfl
  have hnum : numOk d = true := by unfold numOk; rw [hdg15, hld0, c1, hB]; rfl
  have hpv := parts_fv (s := s) (d := d) (a := 0) (k := k) (r := r) hBr (by omega) (fun i h h' => by simp only [Nat.zero_add]; exact hBat i h (by omega)) (.inr (by omega)) hval
  simp only [Nat.zero_add] at hpv
  by_cases hz : s[0].toNat = 48
  · have hP : partsN d = fv (val s 0 k) s (k + 1) r 4 := hpv
    by_cases hbig : 9223372036854775807 < fv (val s 0 k) s (k + 1) r 4
    · exact rbad (by unfold parseOk; rw [hdg, hnum, hP, decide_eq_false (by omega)]; rfl) (rparse_okZbig_p s k w hs hz0 h45 hdig hrun (by omega) (by omega) (by omega) hz (by omega) (by omega) r hdig2 hdot (by omega) (by omega) (by omega) hr2l hrun2.all hbig)
    exact rgood (by unfold parseOk; rw [hdg, hnum, hn, hP, decide_eq_true (show fv (val s 0 k) s (k + 1) r 4 ≤ 9223372036854775807 by omega)]; rfl) (by rw [hdg, hn, hP]; rfl) (rparse_okZgood_p s k w hs hz0 h45 hdig hrun (by omega) (by omega) (by omega) hz (by omega) (by omega) r hdig2 hdot (by omega) (by omega) (by omega) hr2l hrun2.all (by omega))
  · have hP : partsN d = fv (val s 0 k) s (k + 1) r 4 := hpv
    by_cases hbig : 9223372036854775807 < fv (val s 0 k) s (k + 1) r 4
    · exact rbad (by unfold parseOk; rw [hdg, hnum, hP, decide_eq_false (by omega)]; rfl) (rparse_okNbig_p s k w hs hz0 h45 hdig hrun (by omega) (by omega) (by omega) hz (by omega) r hdig2 hdot (by omega) (by omega) (by omega) hr2l hrun2.all hbig)
    exact rgood (by unfold parseOk; rw [hdg, hnum, hn, hP, decide_eq_true (show fv (val s 0 k) s (k + 1) r 4 ≤ 9223372036854775807 by omega)]; rfl) (by rw [hdg, hn, hP]; rfl) (rparse_okNgood_p s k w hs hz0 h45 hdig hrun (by omega) (by omega) (by omega) hz (by omega) r hdig2 hdot (by omega) (by omega) (by omega) hr2l hrun2.all (by omega))
theorem rparse_any (s : ByteArray) (w : World) (hs : s.size ≤ maxLen) : Calls Tryz.prog 32 #[.string s] w fun e w' => e = .returned (.tuple #[.int .i64 (parseV s), .bool (parseOk s)]) ∧ w' = w := by
  cases hn : negS s with
  | true =>
    have h1 := neg_size hn
    refine rparse_neg s (s.extract 1 s.size) w hs hn (by unfold dgS; rw [hn]; rfl) (by rw [ByteArray.size_extract]; omega) fun i h h' => ?_
    have e1 : (s.extract 1 s.size).data.toList[i]? = some (s.extract 1 s.size)[i] := list_at h
    have e2 : (s.extract 1 s.size).data.toList[i]? = some s[1 + i] := by
      rw [ByteArray.data_extract, Array.toList_extract, List.extract_eq_take_drop, List.getElem?_take, if_pos (by omega), List.getElem?_drop]
      exact list_at h'
    exact Option.some.inj (e1.symm.trans e2)
  | false =>
    exact rparse_pos s s w hs hn (by unfold dgS; rw [hn]; rfl) (by omega) fun i h h' => rfl
end Go.Proofs.YtaamphdihmghhaaGreatDoor.Dc
