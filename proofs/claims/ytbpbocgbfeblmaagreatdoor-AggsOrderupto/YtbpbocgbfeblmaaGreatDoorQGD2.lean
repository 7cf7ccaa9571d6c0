/- The contract of the document's Takes, told as the program's. New memory alone is made. What the laws of this seat share: how a list of truths comes in; what the row's list of tables gives to the walks. -/
import Derived.Test.YtbpbocgbfeblmaaGreatDoorQGTr
import Derived.Test.YtbpbocgbfeblmaaGreatDoorQGK3
import Derived.Test.YtbpbocgbfeblmaaGreatDoorCards
import Derived.Test.YtbpbocgbfeblmaaGreatDoorTie
import Derived.ProofKit
import Derived.OpenShut
import Derived.ShutString
import Derived.Lib.LaidTab
import Derived.Lay
import Derived.Stop.LaidErr
import Derived.LaidOnce
import Derived.SevenTiedAt
import Derived.Deep.Grids
import Derived.Deep.Slices
import Derived.Deep.DeepHandedRow
import Derived.SizedLaws
import Derived.WideKeyArgs
namespace Go.Proofs.YtbpbocgbfeblmaaGreatDoor
open Go.RowKit
set_option linter.all false
/-- Whether a place of a kind may have a rectangle (or a single one), as the document says it. -/
def okD (k : UInt8) (m : Bool) : Bool := !(k == 114 && !m || k == 118 && m)
theorem pl_dk (k : Nat) (h : k < 18) : (plI k).size = (dkI k).size ∧ dlI k = (dkI k).size ∧ dhI k = moI k ∧ 0 < (dkI k).size ∧ (dkI k).size ≤ 16 ∧ moI k ≤ 16 ∧ ∀ j, j < 3 → ∀ m, okK (((plI k).data[j]?).getD 114) m = okD (((dkI k).data[j]?).getD 114) m := by
  match k, h with
  | 0, _ => exact (by decide)
  | 1, _ => exact (by decide)
  | 2, _ => exact (by decide)
  | 3, _ => exact (by decide)
  | 4, _ => exact (by decide)
  | 5, _ => exact (by decide)
  | 6, _ => exact (by decide)
  | 7, _ => exact (by decide)
  | 8, _ => exact (by decide)
  | 9, _ => exact (by decide)
  | 10, _ => exact (by decide)
  | 11, _ => exact (by decide)
  | 12, _ => exact (by decide)
  | 13, _ => exact (by decide)
  | 14, _ => exact (by decide)
  | 15, _ => exact (by decide)
  | 16, _ => exact (by decide)
  | 17, _ => exact (by decide)
  | j + 18, h => exact absurd h (by omega)
theorem ok_same (k : Nat) (h : k < 18) (i : Nat) (m : Bool) : okK (kdB (plI k) i) m = okD (kdB (dkI k) i) m := by
  obtain ⟨e1, _, _, h0, _, _, hj⟩ := pl_dk k h
  have h3 : (dkI k).size ≤ 3 := by
    match k, h with
    | 0, _ => exact (by decide)
    | 1, _ => exact (by decide)
    | 2, _ => exact (by decide)
    | 3, _ => exact (by decide)
    | 4, _ => exact (by decide)
    | 5, _ => exact (by decide)
    | 6, _ => exact (by decide)
    | 7, _ => exact (by decide)
    | 8, _ => exact (by decide)
    | 9, _ => exact (by decide)
    | 10, _ => exact (by decide)
    | 11, _ => exact (by decide)
    | 12, _ => exact (by decide)
    | 13, _ => exact (by decide)
    | 14, _ => exact (by decide)
    | 15, _ => exact (by decide)
    | 16, _ => exact (by decide)
    | 17, _ => exact (by decide)
    | j + 18, h => exact absurd h (by omega)
  have hl : min i ((dkI k).size - 1) < (dkI k).size := by omega
  have q := hj (min i ((dkI k).size - 1)) (by omega) m
  unfold kdB
  rw [e1]
  have a1 : min i ((dkI k).size - 1) < (plI k).data.size := by rw [show (plI k).data.size = (dkI k).size from e1]; exact hl
  have a2 : min i ((dkI k).size - 1) < (dkI k).data.size := hl
  rw [Array.getElem?_eq_getElem a1, Array.getElem?_eq_getElem a2] at q ⊢
  exact q
theorem rtakes_no (s : ByteArray) (w : World) (q : Option Addr) (n c : Nat) (h : ¬ nmI s < 18) : Calls Tryz.prog 23 #[.string s, .slice q n c] w fun e w' => e = .returned (.bool false) ∧ Below w.heap.size w w' := by
  have hw := wants_no s w h
  have e1 : ¬ ((n : Int) < 0) := by omega
  have e2 : (-1 : Int) < (n : Int) := by omega
  go_enter Tryz.func23, Tryz.ntmps23
  go_wp2_with (go_at_call 56; refine hw.mono ?_; rintro e w5 ⟨rfl, rfl⟩)
  go_ret
  exact ⟨rfl, by with_reducible (repeat' first | assumption | exact Below.refl _ _ | refine Below.drew ?_ | refine bdrewN ?_ _ | refine Below.setCell ?_ (by first | exact Nat.le_refl _ | (simp; done) | (simp; omega) | omega) _ | refine Below.alloc ?_ (by first | exact Nat.le_refl _ | (simp; done) | (simp; omega) | omega) _)⟩
theorem rtakes_few (s : ByteArray) (w : World) (q : Option Addr) (n c : Nat) (kd : ByteArray) (lo hi : Int) (hw : Calls Tryz.prog 56 #[.string s] w fun e w' => e = .returned (.tuple #[.string kd, .int .i64 lo, .int .i64 hi]) ∧ w' = w) (h : (n : Int) < lo) : Calls Tryz.prog 23 #[.string s, .slice q n c] w fun e w' => e = .returned (.bool false) ∧ Below w.heap.size w w' := by
  go_enter Tryz.func23, Tryz.ntmps23
  go_wp2_with (go_at_call 56; refine hw.mono ?_; rintro e w5 ⟨rfl, rfl⟩)
  go_ret
  exact ⟨rfl, by with_reducible (repeat' first | assumption | exact Below.refl _ _ | refine Below.drew ?_ | refine bdrewN ?_ _ | refine Below.setCell ?_ (by first | exact Nat.le_refl _ | (simp; done) | (simp; omega) | omega) _ | refine Below.alloc ?_ (by first | exact Nat.le_refl _ | (simp; done) | (simp; omega) | omega) _)⟩
theorem rtakes_more (s : ByteArray) (w : World) (q : Option Addr) (n c : Nat) (kd : ByteArray) (lo hi : Int) (hw : Calls Tryz.prog 56 #[.string s] w fun e w' => e = .returned (.tuple #[.string kd, .int .i64 lo, .int .i64 hi]) ∧ w' = w) (h : ¬ (n : Int) < lo) (h2 : hi < (n : Int)) : Calls Tryz.prog 23 #[.string s, .slice q n c] w fun e w' => e = .returned (.bool false) ∧ Below w.heap.size w w' := by
  go_enter Tryz.func23, Tryz.ntmps23
  go_wp2_with (go_at_call 56; refine hw.mono ?_; rintro e w5 ⟨rfl, rfl⟩)
  go_ret
  exact ⟨rfl, by with_reducible (repeat' first | assumption | exact Below.refl _ _ | refine Below.drew ?_ | refine bdrewN ?_ _ | refine Below.setCell ?_ (by first | exact Nat.le_refl _ | (simp; done) | (simp; omega) | omega) _ | refine Below.alloc ?_ (by first | exact Nat.le_refl _ | (simp; done) | (simp; omega) | omega) _)⟩
set_option maxRecDepth 100000 in
set_option maxHeartbeats 1000000 in
theorem rtakes_in (s : ByteArray) (w : World) (b o c n : Nat) (l : List Bool) (kd : ByteArray) (lo hi : Int) (hw : Calls Tryz.prog 56 #[.string s] w fun e w' => e = .returned (.tuple #[.string kd, .int .i64 lo, .int .i64 hi]) ∧ w' = w) (r : Bool) (hr0 : Hid (∀ i x, l[i]? = some x → okD (kdB kd i) x = false → r = false)) (hr1 : Hid ((∀ i x, l[i]? = some x → okD (kdB kd i) x = true) → r = true)) (hla : b < w.heap.size) (HA : ∀ i x, l[i]? = some x → ∀ j, j < 1 → w.cell? ⟨b, o + i * 1 + j, none⟩ = (bcell1 x)[j]?) (hn : l.length = n) (hc : n ≤ c) (hp : 0 < kd.size) (hp2 : kd.size ≤ 16) (h : ¬ (n : Int) < lo) (h2 : ¬ hi < (n : Int)) (hm : hi ≤ 16) : Calls Tryz.prog 23 #[.string s, .slice (some ⟨b, o, none⟩) n c] w fun e w' => e = .returned (.bool r) ∧ Below w.heap.size w w' := by
  have HA' : Hid _ := HA
  have HL : Hid (l.length = n) := hn
  clear HA hn
  go_enter Tryz.func23, Tryz.ntmps23
  go_wp2_with (go_at_call 56; refine hw.mono ?_; rintro e w5 ⟨rfl, h5⟩; rw [h5]; clear h5 w5)
  go_loopw [8] (fun v w' => ∃ i : Nat, v = .int .i64 i ∧ i ≤ n ∧ Hid (∀ j x, j < i → l[j]? = some x → okD (kdB kd j) x = true) ∧ Below w.heap.size w w') (fun v _ => n - (intOf v).toNat)
  case atStart => exact ⟨0, rfl, by omega, (show Hid _ from fun j x hj => absurd hj (by omega)), by with_reducible (repeat' first | assumption | exact Below.refl _ _ | refine Below.drew ?_ | refine bdrewN ?_ _ | refine Below.setCell ?_ (by first | exact Nat.le_refl _ | (simp; done) | (simp; omega) | omega) _ | refine Below.alloc ?_ (by first | exact Nat.le_refl _ | (simp; done) | (simp; omega) | omega) _)⟩
  case round =>
    obtain ⟨i, rfl, hii, htk, hB3⟩ := hrel
    by_cases hlt : i < n
    · have hlt' : (i : Int) < n := by omega
      have hai : l[i]? = some (l[i]'(by rw [HL.out]; exact hlt)) := List.getElem?_eq_getElem _
      have y0 := HA'.out i _ hai 0 (by decide)
      have HAi : Hid _ := hai
      revert y0 HAi
      generalize (l[i]'(by rw [HL.out]; exact hlt)) = x
      intro y0 HAi
      clear hai
      rw [Nat.mul_one, Nat.add_zero] at y0
      have x0 : wr.cell? ⟨b, o + i, none⟩ = some (.bool x) := (hB3.cell (p := ⟨b, o + i, none⟩) hla).trans y0
      clear y0
      obtain ⟨k, hk⟩ : ∃ k : Nat, min i (kd.size - 1) = k := ⟨_, rfl⟩
      have hks : k < kd.size := by omega
      have hks' : (k : Int) < (kd.size : Int) := by omega
      have hmn : min (i : Int) ((kd.size : Int) - 1) = (k : Int) := by omega
      have e : kdB kd i = kd[k]'hks := by unfold kdB; rw [hk, Array.getElem?_eq_getElem (show k < kd.data.size from hks)]; rfl
      have HT : Hid (okD (kdB kd i) x = true → ∀ j x, j < i + 1 → l[j]? = some x → okD (kdB kd j) x = true) := (show _ from fun ho j x' hj hx' => by
          by_cases e : j < i
          · exact htk.out j x' e hx'
          · have : j = i := by omega
            subst this
            have := HAi.out.symm.trans hx'
            cases this
            exact ho)
      have HF : Hid (okD (kdB kd i) x = false → r = false) := (show _ from fun ho => hr0.out i x HAi.out ho)
      rw [e] at HT HF
      clear e
      generalize hkk : (kd[k]'hks) = kk at HT HF
      have c1 := u8i kk 114 114 rfl
      have c2 := u8i kk 118 118 rfl
      have HO : Hid (okD kk x = !(kk == 114 && !x || kk == 118 && x)) := (show _ from rfl)
      cases d1 : (kk == 114) <;> cases d2 : (kk == 118)
      · rw [d1] at c1 HO
        rw [d2] at c2 HO
        clear d1 d2
        cases x
        · go_wp2
          exact ⟨⟨i + 1, by go_num, by omega, (show Hid _ from HT.out HO.out), by with_reducible (repeat' first | assumption | exact Below.refl _ _ | refine Below.drew ?_ | refine bdrewN ?_ _ | refine Below.setCell ?_ (by first | exact Nat.le_refl _ | (simp; done) | (simp; omega) | omega) _ | refine Below.alloc ?_ (by first | exact Nat.le_refl _ | (simp; done) | (simp; omega) | omega) _)⟩, by simp [intOf]; omega⟩
        · go_wp2
          exact ⟨⟨i + 1, by go_num, by omega, (show Hid _ from HT.out HO.out), by with_reducible (repeat' first | assumption | exact Below.refl _ _ | refine Below.drew ?_ | refine bdrewN ?_ _ | refine Below.setCell ?_ (by first | exact Nat.le_refl _ | (simp; done) | (simp; omega) | omega) _ | refine Below.alloc ?_ (by first | exact Nat.le_refl _ | (simp; done) | (simp; omega) | omega) _)⟩, by simp [intOf]; omega⟩
      · rw [d1] at c1 HO
        rw [d2] at c2 HO
        clear d1 d2
        cases x
        · go_wp2
          exact ⟨⟨i + 1, by go_num, by omega, (show Hid _ from HT.out HO.out), by with_reducible (repeat' first | assumption | exact Below.refl _ _ | refine Below.drew ?_ | refine bdrewN ?_ _ | refine Below.setCell ?_ (by first | exact Nat.le_refl _ | (simp; done) | (simp; omega) | omega) _ | refine Below.alloc ?_ (by first | exact Nat.le_refl _ | (simp; done) | (simp; omega) | omega) _)⟩, by simp [intOf]; omega⟩
        · go_wp2
          go_ret
          exact ⟨by rw [HF.out HO.out]; rfl, by with_reducible (repeat' first | assumption | exact Below.refl _ _ | refine Below.drew ?_ | refine bdrewN ?_ _ | refine Below.setCell ?_ (by first | exact Nat.le_refl _ | (simp; done) | (simp; omega) | omega) _ | refine Below.alloc ?_ (by first | exact Nat.le_refl _ | (simp; done) | (simp; omega) | omega) _)⟩
      · rw [d1] at c1 HO
        rw [d2] at c2 HO
        clear d1 d2
        cases x
        · go_wp2
          go_ret
          exact ⟨by rw [HF.out HO.out]; rfl, by with_reducible (repeat' first | assumption | exact Below.refl _ _ | refine Below.drew ?_ | refine bdrewN ?_ _ | refine Below.setCell ?_ (by first | exact Nat.le_refl _ | (simp; done) | (simp; omega) | omega) _ | refine Below.alloc ?_ (by first | exact Nat.le_refl _ | (simp; done) | (simp; omega) | omega) _)⟩
        · go_wp2
          exact ⟨⟨i + 1, by go_num, by omega, (show Hid _ from HT.out HO.out), by with_reducible (repeat' first | assumption | exact Below.refl _ _ | refine Below.drew ?_ | refine bdrewN ?_ _ | refine Below.setCell ?_ (by first | exact Nat.le_refl _ | (simp; done) | (simp; omega) | omega) _ | refine Below.alloc ?_ (by first | exact Nat.le_refl _ | (simp; done) | (simp; omega) | omega) _)⟩, by simp [intOf]; omega⟩
      · exact absurd ((beq_iff_eq.1 d1).symm.trans (beq_iff_eq.1 d2)) (by decide)
    · have hlt' : ¬ (i : Int) < n := by omega
      have HR : Hid (r = true) := (show _ from hr1.out (fun j x hj => htk.out j x (by have := (List.getElem?_eq_some_iff.1 hj).1; rw [HL.out] at this; omega) hj))
      go_wp2
      go_ret
      exact ⟨by rw [HR.out]; rfl, by with_reducible (repeat' first | assumption | exact Below.refl _ _ | refine Below.drew ?_ | refine bdrewN ?_ _ | refine Below.setCell ?_ (by first | exact Nat.le_refl _ | (simp; done) | (simp; omega) | omega) _ | refine Below.alloc ?_ (by first | exact Nat.le_refl _ | (simp; done) | (simp; omega) | omega) _)⟩
theorem rtakes_any (s : ByteArray) (w : World) (v : Value) (l : List Bool) (hv : BV w v l) : Calls Tryz.prog 23 #[.string s, v] w fun e w' => e = .returned (.bool (decide (nmI s < 18) && takB (plI (nmI s)) (moI (nmI s)) l)) ∧ Below w.heap.size w w' := by
  obtain ⟨q, c, rfl, hc, hf⟩ := hv
  by_cases g : nmI s < 18
  · rw [decide_eq_true g, Bool.true_and]
    obtain ⟨e1, e2, e3, h0, h16, hm, _⟩ := pl_dk _ g
    have hw := wants_any s w g
    have hs := ok_same _ g
    by_cases h : (l.length : Int) < dlI (nmI s)
    · have : takB (plI (nmI s)) (moI (nmI s)) l = false := by unfold takB; rw [decide_eq_false (show ¬ (plI (nmI s)).size ≤ l.length by omega)]; rfl
      rw [this]
      exact rtakes_few s w q _ c _ _ _ hw h
    by_cases h2 : dhI (nmI s) < (l.length : Int)
    · have : takB (plI (nmI s)) (moI (nmI s)) l = false := by unfold takB; rw [decide_eq_false (show ¬ (l.length : Int) ≤ moI (nmI s) by omega), Bool.and_false]; rfl
      rw [this]
      exact rtakes_more s w q _ c _ _ _ hw h h2
    obtain ⟨b, o, rfl, hlt, HA⟩ := hf (by omega)
    exact rtakes_in s w b o c _ l _ _ _ hw _ (show Hid _ from fun i x hi hx => tak_no hi (by rw [hs]; exact hx)) (show Hid _ from fun hx => tak_yes (by omega) (by omega) (fun j x hj => by rw [hs]; exact hx j x hj)) hlt HA rfl hc h0 h16 h h2 (by omega)
  · rw [decide_eq_false g, Bool.false_and]
    exact rtakes_no s w q _ c g
end Go.Proofs.YtbpbocgbfeblmaaGreatDoor
namespace Go.Proofs.YtbpbocgbfeblmaaGreatDoor
open Go.Shelf Go.RowKit Go.Joins Go.ChangeShapes Go.WideShapes Go.ChangeAt
set_option linter.all false
/-- The five tables that each row of this seat lists. -/
def tables : List (String × DataW Unit) := [("math/bits.deBruijn32tab", Rows.laid_math_bits_deBruijn32tab), ("math/bits.deBruijn64tab", Rows.laid_math_bits_deBruijn64tab), ("internal/strconv.uint64pow10", Rows.laid_internal_strconv_uint64pow10), ("unicode/utf8.acceptRanges", Rows.laid_unicode_utf8_acceptRanges), ("unicode/utf8.first", Rows.laid_unicode_utf8_first)]
theorem own : ownKnob Tryz.prog.godebug = none := by kernel_rfl
theorem laidOutN : laidOutB Tryz.prog = true := by kernel_rfl
theorem rowBools : 30 < Tryz.prog.types.size := of_decide_eq_true (by kernel_rfl)
theorem cellsB1 : Tryz.prog.cellsOf 4 = 1 := by kernel_rfl
set_option maxRecDepth 100000 in
theorem open_bls {H : Type} {enc : TypeId × Value → H} {w : World} {base : Nat} {held : Bool} {r : Reach} {b0 : Nat} {v : Value} {d : DataW H} {p : List MemPlace} (hv : Value.okWide Tryz.prog w r b0 30 v) (h : DataW.Trod enc Tryz.prog w base (fun _ => true) held 30 v d p) :
    ∃ l : List Bool, BV w v l ∧ l.length ≤ 9223372036854775807 := by
  obtain ⟨fp, fn, fc, rfl⟩ := okWide_slice Tryz.underlying30 hv
  obtain ⟨fuel, hf⟩ := h
  have g : DataW.trod enc Tryz.prog w base (fun _ => true) held fuel 30 [.slice fp fn fc] = some (d, p) := hf
  rcases Go.Deep.open_bools Tryz.underlying30 Tryz.underlying4 cellsB1 g with ⟨h1, _⟩ | ⟨a, len, cap, B, h1, hb, hlc, hcm, h2, hel⟩
  · simp only [List.cons.injEq, Value.slice.injEq, and_true] at h1
    obtain ⟨rfl, rfl, rfl⟩ := h1
    exact ⟨[], ⟨none, 0, rfl, Nat.le_refl _, fun h => absurd h (by simp)⟩, by simp⟩
  · simp only [List.cons.injEq, Value.slice.injEq, and_true] at h1
    obtain ⟨rfl, rfl, rfl⟩ := h1
    refine ⟨(List.range fn).map B, ⟨some a, fc, by rw [List.length_map, List.length_range], by rw [List.length_map, List.length_range]; exact hlc, fun h0 => ?_⟩, by rw [List.length_map, List.length_range]; unfold maxLen at hcm; omega⟩
    rw [List.length_map, List.length_range] at h0
    have h3 := hel 0 (by omega)
    rw [show a.add 0 = a by simp [Addr.add]] at h3
    have hs := World.cell?_spot h3
    obtain ⟨b, off, s⟩ := a
    simp only at hs
    subst hs
    refine ⟨b, off, rfl, by simpa using World.block_lt_of_cell? w _ h3, fun i x hi j hj => ?_⟩
    have hil := (List.getElem?_eq_some_iff.1 hi).1
    rw [List.length_map, List.length_range] at hil
    have h5 := hel i (by omega)
    have hj0 : j = 0 := by omega
    subst hj0
    rw [List.getElem?_map, List.getElem?_range hil] at hi
    simp at hi
    subst hi
    have e : ((⟨b, off, none⟩ : Addr).add i) = ⟨b, off + i, none⟩ := by simp [Addr.add]
    rw [e] at h5
    rw [Nat.mul_one, Nat.add_zero, h5]
    rfl
end Go.Proofs.YtbpbocgbfeblmaaGreatDoor
