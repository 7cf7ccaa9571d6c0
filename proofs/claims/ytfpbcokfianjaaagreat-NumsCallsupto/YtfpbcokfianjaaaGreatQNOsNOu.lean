/- What the document's Call answers at TRUNC and ROUND, by what its two answers. New memory alone is made. · What the document's Call answers at CLAMP. New memory alone is made. -/
import Derived.Test.YtfpbcokfianjaaaGreatQNOqNOr
namespace Go.Proofs.YtfpbcokfianjaaaGreat
open Go.RowKit
set_option linter.all false
theorem cells5 {w : World} {base g k cap : Nat} {N : List Int} {x : Int} (h : w.ownsRow base 2 1 (.slice (some ⟨g, 0, none⟩) (k + 1) cap) (k + 1) (flatC icell N ++ (icell x).toList)) : ∀ i y, (N ++ [x])[i]? = some y → w.cell? ⟨g, i, none⟩ = some (.int .i64 y) := fun i y hi => by
  have hl := h.1
  have e : flatC icell N ++ (icell x).toList = flatC icell (N ++ [x]) := (flatC_snoc N x).symm
  rw [e] at h
  have q := World.ownsRow.cellAt h i (by
    have h2 := (List.getElem?_eq_some_iff.1 hi).1
    have h3 := flatC_len icell_size (N ++ [x])
    rw [e] at hl
    omega)
  rw [q]
  have := flatC_at (c := icell) icell_size (N ++ [x]) i 0 y hi (by decide)
  rw [Nat.mul_one, Nat.add_zero] at this
  rw [this]
  rfl
set_option maxRecDepth 100000 in
set_option maxHeartbeats 1000000 in
theorem d_trunc (s : ByteArray) (w : World) (b o c : Nat) (x : Int) (l : List Ag) (hla : b < w.heap.size) (HA : Hid (∀ i y, l[i]? = some y → ∀ j, j < 11 → w.cell? ⟨b, o + i * 11 + j, none⟩ = (Ag.cells y)[j]?)) (hcc : l.length ≤ c) (hN : Hid (Nums l)) (hl40 : l.length ≤ 1099511627776) (h0 : 0 < l.length) (hE : Hid (∀ a ∈ l, EV w a)) (hr : Hid ((hasB (wlI s) (whI s) (l.length : Int) && !l.any nosB) = true)) (ha : firstF l = none) (hF : Hid (firstC l = 0)) (e0 : (s.toList == [71, 67, 68]) = false) (e1 : (s.toList == [76, 67, 77]) = false) (e2 : (s.toList == [67, 76, 65, 77, 80]) = false) (e3 : (s.toList == [84, 82, 85, 78, 67]) = true) (a0 a1 : Int) (N' : List Int) (hN1 : Hid (l.map asN ++ [0] = a0 :: a1 :: N')) (rt rn : Int) (rs : ByteArray) (rb : Bool) (rc : Int) (H1 : Hid (∀ W : World, Calls Tryz.prog 20 #[.string s, .int .i64 a0, .int .i64 a1] W fun e w' => e = .returned (.agg #[.int .i64 rt, .int .i64 rn, .string rs, .bool rb, .int .i64 rc]) ∧ Below W.heap.size W w')) : Calls Tryz.prog 5 #[.string s, .slice (some ⟨b, o, none⟩) l.length c, .int .i64 x] w fun e w' => e = .returned (.agg #[.int .i64 rt, .int .i64 rn, .string rs, .bool rb, .int .i64 rc]) ∧ Below w.heap.size w w' := by
  obtain ⟨i0, hi, hz0, hz1, hz2⟩ := info_parts infoI64
  have HI : Hid _ := hi
  have HZ0 : Hid _ := hz0
  have HZ1 : Hid _ := hz1
  have HZ2 : Hid _ := hz2
  clear hi hz0 hz1 hz2
  have mixed : Tryz.prog.follows .mixedOrders = true := by kernel_rfl
  have hv : AV w (.slice (some ⟨b, o, none⟩) l.length c) l := ⟨_, _, rfl, hcc, fun _ => ⟨b, o, rfl, hla, HA.out⟩⟩
  go_enter Tryz.func5, Tryz.ntmps5
  go_wp2_with (first | (go_at_call 12; refine (args_s _ _ _ (hv.keep (bal _ _)) hN hl40 (fun a ha => (hE.out a ha).keep (bal _ _))).mono ?_; rintro e wa ⟨⟨mp, mc, ok, rfl, hbv⟩, hbwa⟩; have hBwa : Below w.heap.size w wa := bup (by with_reducible (repeat' first | assumption | exact Below.refl _ _ | refine Below.drew ?_ | refine bdrewN ?_ _ | refine Below.setCell ?_ (by first | exact Nat.le_refl _ | (simp; done) | (simp; omega) | omega) _ | refine Below.alloc ?_ (by first | exact Nat.le_refl _ | (simp; done) | (simp; omega) | omega) _)) hbwa; have zwa := hBwa.size; have o0wa : Own wa (w.heap.size) #[.int .i64 0, .int .i64 0, .string ⟨#[]⟩, .bool false, .int .i64 0] := Own.keep (by with_reducible (repeat' first | assumption | refine Own.drew ?_ | refine Own.drewN ?_ _ | (refine Own.at ?_; first | rfl | (simp; done)) | refine Own.past ?_ _)) hbwa; have c0 := o0wa.cell; have f0 := o0wa.fro; have l0 := o0wa.lt; obtain rfl := ok_t hr.out hbv.out.2) | (go_at_call 13; refine (rtakes_any _ _ _ _ hbv.out.1 (by rw [List.length_map]; omega)).mono ?_; rintro e wt ⟨rfl, hbwt⟩; have hBwt : Below w.heap.size w wt := bup (by with_reducible (repeat' first | assumption | exact Below.refl _ _ | refine Below.drew ?_ | refine bdrewN ?_ _ | refine Below.setCell ?_ (by first | exact Nat.le_refl _ | (simp; done) | (simp; omega) | omega) _ | refine Below.alloc ?_ (by first | exact Nat.le_refl _ | (simp; done) | (simp; omega) | omega) _)) hbwt; have zwt := hBwt.size; have o0wt : Own wt (w.heap.size) #[.int .i64 0, .int .i64 0, .string ⟨#[]⟩, .bool false, .int .i64 0] := Own.keep (by with_reducible (repeat' first | assumption | refine Own.drew ?_ | refine Own.drewN ?_ _ | (refine Own.at ?_; first | rfl | (simp; done)) | refine Own.past ?_ _)) hbwt; have c0 := o0wt.cell; have f0 := o0wt.fro; have l0 := o0wt.lt; rw [taken hr.out]) | (go_at_call 15; refine (dfault_v _ _ _ (hv.keep (by assumption)) (by omega) hN h0).mono ?_; rintro e wf ⟨rfl, hbwf⟩; have hBwf : Below w.heap.size w wf := bup (by with_reducible (repeat' first | assumption | exact Below.refl _ _ | refine Below.drew ?_ | refine bdrewN ?_ _ | refine Below.setCell ?_ (by first | exact Nat.le_refl _ | (simp; done) | (simp; omega) | omega) _ | refine Below.alloc ?_ (by first | exact Nat.le_refl _ | (simp; done) | (simp; omega) | omega) _)) hbwf; have zwf := hBwf.size; have o0wf : Own wf (w.heap.size) #[.int .i64 0, .int .i64 0, .string ⟨#[]⟩, .bool false, .int .i64 0] := Own.keep (by with_reducible (repeat' first | assumption | refine Own.drew ?_ | refine Own.drewN ?_ _ | (refine Own.at ?_; first | rfl | (simp; done)) | refine Own.past ?_ _)) hbwf; have c0 := o0wf.cell; have f0 := o0wf.fro; have l0 := o0wf.lt; rw [ha]; dsimp only [faultOut, v0]))
  obtain ⟨wg, hwg⟩ : ∃ wg, wf.alloc (.cells #[.int .i64 0, .int .i64 0, .string ⟨#[]⟩, .bool false, .int .i64 0] 26) = wg := ⟨_, rfl⟩
  have hBg : Below w.heap.size w wg := by rw [← hwg]; exact hBwf.alloc (by omega) _
  have og : Own wg w.heap.size #[.int .i64 0, .int .i64 0, .string ⟨#[]⟩, .bool false, .int .i64 0] := by rw [← hwg]; exact o0wf.past _
  rw [hwg]
  clear hwg c0 f0 l0 o0wf
  have zg := hBg.size
  go_loopw [11, 12] (fun u j w' => ∃ i : Nat, j = .int .i64 i ∧ i ≤ l.length ∧ Hid (∀ a ∈ l.take i, asC a = 0) ∧ Hid (Row icell 1 2 w' wg.heap.size u ((l.take i).map asN)) ∧ Below wg.heap.size wg w') (fun _ j _ => l.length - (intOf j).toNat)
  case atStart => exact ⟨0, rfl, by omega, (show Hid _ from fun a ha => by simp at ha), Row.nil _ _, Below.refl _ _⟩
  case round =>
    obtain ⟨i, rfl, hii, htk, HR, hB3⟩ := hrel
    have z3 := hB3.size
    have hBwr : Below w.heap.size w wr := bup hBg hB3
    have hlen : ((l.take i).map asN).length = i := by rw [List.length_map, List.length_take]; omega
    have HL : Hid _ := hlen
    obtain ⟨up, uc, hu, huc, _⟩ := Row.slice HR.out
    have HUC : Hid _ := huc
    clear huc
    rw [hlen] at hu
    clear hlen
    subst hu
    have orr := og.keep hB3
    have cr := orr.cell
    have fr := orr.fro
    have lr := orr.lt
    by_cases hlt : i < l.length
    · have hlt' : (i : Int) < (l.length : Int) := by omega
      have hai : l[i]? = some (l[i]'hlt) := List.getElem?_eq_getElem _
      have ca' := fun j hj => (show w.cell? ⟨b, o + i * 11 + j, none⟩ = _ from HA.out i _ hai j hj)
      have hin : I64 (l[i]'hlt).n := hN.out _ (List.getElem_mem _)
      have HAi : Hid _ := hai
      revert ca' HAi hin
      generalize (l[i]'hlt) = y
      intro ca' hin HAi
      clear hai
      have y1 := (hBwr.cell (p := ⟨b, o + i * 11 + 1, none⟩) hla).trans (ca' 1 (by decide))
      have y2 := (hBwr.cell (p := ⟨b, o + i * 11 + 2, none⟩) hla).trans (ca' 2 (by decide))
      have y3 := (hBwr.cell (p := ⟨b, o + i * 11 + 3, none⟩) hla).trans (ca' 3 (by decide))
      have y4 := (hBwr.cell (p := ⟨b, o + i * 11 + 4, none⟩) hla).trans (ca' 4 (by decide))
      have y5 := (hBwr.cell (p := ⟨b, o + i * 11 + 5, none⟩) hla).trans (ca' 5 (by decide))
      clear ca'
      have x1 : wr.cell? ⟨b, o + i * 11 + 1, none⟩ = some (.int .i64 y.t) := y1
      have x2 : wr.cell? ⟨b, o + i * 11 + 2, none⟩ = some (.int .i64 y.n) := y2
      have x3 : wr.cell? ⟨b, o + i * 11 + 3, none⟩ = some (.string y.s) := y3
      have x4 : wr.cell? ⟨b, o + i * 11 + 4, none⟩ = some (.bool y.b) := y4
      have x5 : wr.cell? ⟨b, o + i * 11 + 5, none⟩ = some (.int .i64 y.c) := y5
      clear y1 y2 y3 y4 y5
      by_cases hs : asC y = 0
      · have HS : Hid (asC y = 0) := hs
        unfold asC at hs
        go_wp2_with (first | (go_at_call 16; refine (raNumberV _ _ _ _ _ _ hin).mono ?_; rintro e wn ⟨rfl, hbwn⟩; have hBwn : Below w.heap.size w wn := bup (by with_reducible (repeat' first | assumption | exact Below.refl _ _ | refine Below.drew ?_ | refine bdrewN ?_ _ | refine Below.setCell ?_ (by first | exact Nat.le_refl _ | (simp; done) | (simp; omega) | omega) _ | refine Below.alloc ?_ (by first | exact Nat.le_refl _ | (simp; done) | (simp; omega) | omega) _)) hbwn; have zwn := hBwn.size; have o0wn : Own wn (w.heap.size) #[.int .i64 0, .int .i64 0, .string ⟨#[]⟩, .bool false, .int .i64 0] := Own.keep (by with_reducible (repeat' first | assumption | refine Own.drew ?_ | refine Own.drewN ?_ _ | (refine Own.at ?_; first | rfl | (simp; done)) | refine Own.past ?_ _)) hbwn; have c0 := o0wn.cell; have f0 := o0wn.fro; have l0 := o0wn.lt; rw [hs]; have hBn : Below wg.heap.size wg wn := bup hB3 hbwn; have HRn : Hid _ := Row.keep HR.out hbwn; have HOn : Hid (wn.ownsRow wg.heap.size 2 1 (.slice up i uc) i (flatC icell ((l.take i).map asN))) := (show wn.ownsRow wg.heap.size 2 1 (.slice up i uc) i (flatC icell ((l.take i).map asN)) from by have q := HRn.out; unfold Row at q; rw [HL.out] at q; exact q)) | (at_builtin; refine wpList_append_own _ rfl _ _ 41 rfl wg.heap.size 2 i0 _ 1 8 Tryz.underlying41 HI.out HZ0.out HZ1.out HZ2.out rfl (by decide) _ _ _ rfl (HOn.out.alloc _) ⟨wn.heap.size, 0, none⟩ 1 1 (icell (asN y)).toList rfl rfl (by exact news_pl _ _ _) (icell_one _) (by unfold maxLen; omega) (by omega) (by rw [World.size_alloc]; have := hBn.size; omega) ?_; intro v' w1 hown' hgrow _; have R := app_rowv (t := asN y) (hBn.alloc (by have := hBn.size; omega) _) HRn.out (by rw [HL.out]; exact hown') hgrow; rw [take_map HAi.out] at R; have hB4 := R.2; have HR4 : Hid _ := R.1; clear R hown' hgrow))
        exact ⟨⟨i + 1, by go_num, by omega, (show Hid _ from firstC_take HAi.out htk.out HS.out), HR4, hB4⟩, by simp [intOf]; omega⟩
      · exact absurd (firstC_at HAi.out htk.out hs) (by rw [hF.out]; exact fun e => hs e.symm)
    · have hlt' : ¬ (i : Int) < (l.length : Int) := by omega
      have hil : i = l.length := by omega
      subst hil
      have q := HR.out
      rw [List.take_length] at q
      have HRl : Hid _ := fun k hk => (Row.lt q k hk).1
      have HOr : Hid (wr.ownsRow wg.heap.size 2 1 (.slice up l.length uc) l.length (flatC icell (l.map asN))) := (show wr.ownsRow wg.heap.size 2 1 (.slice up l.length uc) l.length (flatC icell (l.map asN)) from by
        have q2 := q
        unfold Row at q2
        rw [List.length_map] at q2
        exact q2)
      have hq : (((l.length : Int) + 1) == 1) = false := beq_eq_false_iff_ne.2 (by omega)
      have hp : (0 : Int) < (l.length : Int) + 1 := by omega
      have hp1 : (1 : Int) < (l.length : Int) + 1 := by omega
      clear HR q htk
      go_wp2_with (at_builtin; refine wpList_append_lies _ rfl _ _ 41 rfl wg.heap.size 2 i0 _ 1 8 Tryz.underlying41 HI.out HZ0.out HZ1.out HZ2.out rfl (by decide) (.slice up l.length uc) l.length (flatC icell (l.map asN)) rfl (HOr.out.alloc _) ⟨wr.heap.size, 0, none⟩ 1 1 (icell 0).toList rfl rfl (by exact news_pl _ _ _) (icell_one _) (by decide) (by unfold maxLen; omega) (by omega) (by first | omega | (rw [World.size_alloc]; omega) | (rw [World.size_alloc]) | (simp; omega)) (wr.heap.size + 1) (by simp) ?_; intro g5 cap5 w5 hown5 hgrow5 hat5 hlt5; have hB5 : Below wg.heap.size wg w5 := Below.grown (hB3.alloc (by omega) _) hgrow5 (Below.size (hB3.alloc (by omega) _)) (fun k hk => (HRl.out k hk)); have o5 := og.keep hB5; have c5 := o5.cell; have f5 := o5.fro; have l5 := o5.lt; have hBw5 := bup hBg hB5; have z5 := hBw5.size; have hcl5 := cells5 hown5; have n0 := hcl5 0 a0 (by simp [hN1.out]); have n1 := hcl5 1 a1 (by simp [hN1.out]); have hg5 : wg.heap.size ≤ g5 := hat5.elim (fun h => HRl.out g5 h) (fun h => by omega); have hlo := og.lt; have hng : ¬ g5 = w.heap.size := (by omega); have hng2 : ¬ w.heap.size = g5 := (by omega); clear hcl5 hown5 hgrow5 hat5)
      go_region_held3 (fun w' => w'.cell? ⟨g5, 0, none⟩ = some (.int .i64 a0) ∧ w'.cell? ⟨g5, 1, none⟩ = some (.int .i64 a1)) ((repeat' apply And.intro) <;> (first | (go_keep; done) | (go_simp; done))) ((go_at_call 20; refine (H1.out _).mono ?_; rintro e we ⟨rfl, hbwe⟩; have hBwe : Below w.heap.size w we := bup (by with_reducible (repeat' first | assumption | exact Below.refl _ _ | refine Below.drew ?_ | refine bdrewN ?_ _ | refine Below.setCell ?_ (by first | exact Nat.le_refl _ | (simp; done) | (simp; omega) | omega) _ | refine Below.alloc ?_ (by first | exact Nat.le_refl _ | (simp; done) | (simp; omega) | omega) _)) hbwe; have zwe := hBwe.size; have o0we : Own we w.heap.size #[.int .i64 0, .int .i64 0, .string ⟨#[]⟩, .bool false, .int .i64 0] := Own.keep (by with_reducible (repeat' first | assumption | refine Own.drew ?_ | refine Own.drewN ?_ _ | (refine Own.at ?_; first | rfl | (simp; done)) | refine Own.past ?_ _)) hbwe; have c0 := o0we.cell; have f0 := o0we.fro; have l0 := o0we.lt; have n0e := (hbwe.cell (p := ⟨g5, 0, none⟩) (by first | exact hlt5 | exact (show g5 < w5.heap.size from hlt5))).trans n0; have n1e := (hbwe.cell (p := ⟨g5, 1, none⟩) (by first | exact hlt5 | exact (show g5 < w5.heap.size from hlt5))).trans n1))
      go_wp2
      exact bodyPost_ret (v := (.agg #[.int .i64 rt, .int .i64 rn, .string rs, .bool rb, .int .i64 rc])) (by simp [results, Tryz.results5, go_sem, c0, f0, l0]) rfl ⟨rfl, by with_reducible (repeat' first | assumption | exact Below.refl _ _ | refine Below.drew ?_ | refine bdrewN ?_ _ | refine Below.setCell ?_ (by first | exact Nat.le_refl _ | (simp; done) | (simp; omega) | omega) _ | refine Below.alloc ?_ (by first | exact Nat.le_refl _ | (simp; done) | (simp; omega) | omega) _)⟩
set_option maxRecDepth 100000 in
set_option maxHeartbeats 1000000 in
theorem d_round (s : ByteArray) (w : World) (b o c : Nat) (x : Int) (l : List Ag) (hla : b < w.heap.size) (HA : Hid (∀ i y, l[i]? = some y → ∀ j, j < 11 → w.cell? ⟨b, o + i * 11 + j, none⟩ = (Ag.cells y)[j]?)) (hcc : l.length ≤ c) (hN : Hid (Nums l)) (hl40 : l.length ≤ 1099511627776) (h0 : 0 < l.length) (hE : Hid (∀ a ∈ l, EV w a)) (hr : Hid ((hasB (wlI s) (whI s) (l.length : Int) && !l.any nosB) = true)) (ha : firstF l = none) (hF : Hid (firstC l = 0)) (e0 : (s.toList == [71, 67, 68]) = false) (e1 : (s.toList == [76, 67, 77]) = false) (e2 : (s.toList == [67, 76, 65, 77, 80]) = false) (e3 : (s.toList == [84, 82, 85, 78, 67]) = false) (e4 : (s.toList == [82, 79, 85, 78, 68]) = true) (a0 a1 : Int) (N' : List Int) (hN1 : Hid (l.map asN ++ [0] = a0 :: a1 :: N')) (rt rn : Int) (rs : ByteArray) (rb : Bool) (rc : Int) (H1 : Hid (∀ W : World, Calls Tryz.prog 20 #[.string s, .int .i64 a0, .int .i64 a1] W fun e w' => e = .returned (.agg #[.int .i64 rt, .int .i64 rn, .string rs, .bool rb, .int .i64 rc]) ∧ Below W.heap.size W w')) : Calls Tryz.prog 5 #[.string s, .slice (some ⟨b, o, none⟩) l.length c, .int .i64 x] w fun e w' => e = .returned (.agg #[.int .i64 rt, .int .i64 rn, .string rs, .bool rb, .int .i64 rc]) ∧ Below w.heap.size w w' := by
  obtain ⟨i0, hi, hz0, hz1, hz2⟩ := info_parts infoI64
  have HI : Hid _ := hi
  have HZ0 : Hid _ := hz0
  have HZ1 : Hid _ := hz1
  have HZ2 : Hid _ := hz2
  clear hi hz0 hz1 hz2
  have mixed : Tryz.prog.follows .mixedOrders = true := by kernel_rfl
  have hv : AV w (.slice (some ⟨b, o, none⟩) l.length c) l := ⟨_, _, rfl, hcc, fun _ => ⟨b, o, rfl, hla, HA.out⟩⟩
  go_enter Tryz.func5, Tryz.ntmps5
  go_wp2_with (first | (go_at_call 12; refine (args_s _ _ _ (hv.keep (bal _ _)) hN hl40 (fun a ha => (hE.out a ha).keep (bal _ _))).mono ?_; rintro e wa ⟨⟨mp, mc, ok, rfl, hbv⟩, hbwa⟩; have hBwa : Below w.heap.size w wa := bup (by with_reducible (repeat' first | assumption | exact Below.refl _ _ | refine Below.drew ?_ | refine bdrewN ?_ _ | refine Below.setCell ?_ (by first | exact Nat.le_refl _ | (simp; done) | (simp; omega) | omega) _ | refine Below.alloc ?_ (by first | exact Nat.le_refl _ | (simp; done) | (simp; omega) | omega) _)) hbwa; have zwa := hBwa.size; have o0wa : Own wa (w.heap.size) #[.int .i64 0, .int .i64 0, .string ⟨#[]⟩, .bool false, .int .i64 0] := Own.keep (by with_reducible (repeat' first | assumption | refine Own.drew ?_ | refine Own.drewN ?_ _ | (refine Own.at ?_; first | rfl | (simp; done)) | refine Own.past ?_ _)) hbwa; have c0 := o0wa.cell; have f0 := o0wa.fro; have l0 := o0wa.lt; obtain rfl := ok_t hr.out hbv.out.2) | (go_at_call 13; refine (rtakes_any _ _ _ _ hbv.out.1 (by rw [List.length_map]; omega)).mono ?_; rintro e wt ⟨rfl, hbwt⟩; have hBwt : Below w.heap.size w wt := bup (by with_reducible (repeat' first | assumption | exact Below.refl _ _ | refine Below.drew ?_ | refine bdrewN ?_ _ | refine Below.setCell ?_ (by first | exact Nat.le_refl _ | (simp; done) | (simp; omega) | omega) _ | refine Below.alloc ?_ (by first | exact Nat.le_refl _ | (simp; done) | (simp; omega) | omega) _)) hbwt; have zwt := hBwt.size; have o0wt : Own wt (w.heap.size) #[.int .i64 0, .int .i64 0, .string ⟨#[]⟩, .bool false, .int .i64 0] := Own.keep (by with_reducible (repeat' first | assumption | refine Own.drew ?_ | refine Own.drewN ?_ _ | (refine Own.at ?_; first | rfl | (simp; done)) | refine Own.past ?_ _)) hbwt; have c0 := o0wt.cell; have f0 := o0wt.fro; have l0 := o0wt.lt; rw [taken hr.out]) | (go_at_call 15; refine (dfault_v _ _ _ (hv.keep (by assumption)) (by omega) hN h0).mono ?_; rintro e wf ⟨rfl, hbwf⟩; have hBwf : Below w.heap.size w wf := bup (by with_reducible (repeat' first | assumption | exact Below.refl _ _ | refine Below.drew ?_ | refine bdrewN ?_ _ | refine Below.setCell ?_ (by first | exact Nat.le_refl _ | (simp; done) | (simp; omega) | omega) _ | refine Below.alloc ?_ (by first | exact Nat.le_refl _ | (simp; done) | (simp; omega) | omega) _)) hbwf; have zwf := hBwf.size; have o0wf : Own wf (w.heap.size) #[.int .i64 0, .int .i64 0, .string ⟨#[]⟩, .bool false, .int .i64 0] := Own.keep (by with_reducible (repeat' first | assumption | refine Own.drew ?_ | refine Own.drewN ?_ _ | (refine Own.at ?_; first | rfl | (simp; done)) | refine Own.past ?_ _)) hbwf; have c0 := o0wf.cell; have f0 := o0wf.fro; have l0 := o0wf.lt; rw [ha]; dsimp only [faultOut, v0]))
  obtain ⟨wg, hwg⟩ : ∃ wg, wf.alloc (.cells #[.int .i64 0, .int .i64 0, .string ⟨#[]⟩, .bool false, .int .i64 0] 26) = wg := ⟨_, rfl⟩
  have hBg : Below w.heap.size w wg := by rw [← hwg]; exact hBwf.alloc (by omega) _
  have og : Own wg w.heap.size #[.int .i64 0, .int .i64 0, .string ⟨#[]⟩, .bool false, .int .i64 0] := by rw [← hwg]; exact o0wf.past _
  rw [hwg]
  clear hwg c0 f0 l0 o0wf
  have zg := hBg.size
  go_loopw [11, 12] (fun u j w' => ∃ i : Nat, j = .int .i64 i ∧ i ≤ l.length ∧ Hid (∀ a ∈ l.take i, asC a = 0) ∧ Hid (Row icell 1 2 w' wg.heap.size u ((l.take i).map asN)) ∧ Below wg.heap.size wg w') (fun _ j _ => l.length - (intOf j).toNat)
  case atStart => exact ⟨0, rfl, by omega, (show Hid _ from fun a ha => by simp at ha), Row.nil _ _, Below.refl _ _⟩
  case round =>
    obtain ⟨i, rfl, hii, htk, HR, hB3⟩ := hrel
    have z3 := hB3.size
    have hBwr : Below w.heap.size w wr := bup hBg hB3
    have hlen : ((l.take i).map asN).length = i := by rw [List.length_map, List.length_take]; omega
    have HL : Hid _ := hlen
    obtain ⟨up, uc, hu, huc, _⟩ := Row.slice HR.out
    have HUC : Hid _ := huc
    clear huc
    rw [hlen] at hu
    clear hlen
    subst hu
    have orr := og.keep hB3
    have cr := orr.cell
    have fr := orr.fro
    have lr := orr.lt
    by_cases hlt : i < l.length
    · have hlt' : (i : Int) < (l.length : Int) := by omega
      have hai : l[i]? = some (l[i]'hlt) := List.getElem?_eq_getElem _
      have ca' := fun j hj => (show w.cell? ⟨b, o + i * 11 + j, none⟩ = _ from HA.out i _ hai j hj)
      have hin : I64 (l[i]'hlt).n := hN.out _ (List.getElem_mem _)
      have HAi : Hid _ := hai
      revert ca' HAi hin
      generalize (l[i]'hlt) = y
      intro ca' hin HAi
      clear hai
      have y1 := (hBwr.cell (p := ⟨b, o + i * 11 + 1, none⟩) hla).trans (ca' 1 (by decide))
      have y2 := (hBwr.cell (p := ⟨b, o + i * 11 + 2, none⟩) hla).trans (ca' 2 (by decide))
      have y3 := (hBwr.cell (p := ⟨b, o + i * 11 + 3, none⟩) hla).trans (ca' 3 (by decide))
      have y4 := (hBwr.cell (p := ⟨b, o + i * 11 + 4, none⟩) hla).trans (ca' 4 (by decide))
      have y5 := (hBwr.cell (p := ⟨b, o + i * 11 + 5, none⟩) hla).trans (ca' 5 (by decide))
      clear ca'
      have x1 : wr.cell? ⟨b, o + i * 11 + 1, none⟩ = some (.int .i64 y.t) := y1
      have x2 : wr.cell? ⟨b, o + i * 11 + 2, none⟩ = some (.int .i64 y.n) := y2
      have x3 : wr.cell? ⟨b, o + i * 11 + 3, none⟩ = some (.string y.s) := y3
      have x4 : wr.cell? ⟨b, o + i * 11 + 4, none⟩ = some (.bool y.b) := y4
      have x5 : wr.cell? ⟨b, o + i * 11 + 5, none⟩ = some (.int .i64 y.c) := y5
      clear y1 y2 y3 y4 y5
      by_cases hs : asC y = 0
      · have HS : Hid (asC y = 0) := hs
        unfold asC at hs
        go_wp2_with (first | (go_at_call 16; refine (raNumberV _ _ _ _ _ _ hin).mono ?_; rintro e wn ⟨rfl, hbwn⟩; have hBwn : Below w.heap.size w wn := bup (by with_reducible (repeat' first | assumption | exact Below.refl _ _ | refine Below.drew ?_ | refine bdrewN ?_ _ | refine Below.setCell ?_ (by first | exact Nat.le_refl _ | (simp; done) | (simp; omega) | omega) _ | refine Below.alloc ?_ (by first | exact Nat.le_refl _ | (simp; done) | (simp; omega) | omega) _)) hbwn; have zwn := hBwn.size; have o0wn : Own wn (w.heap.size) #[.int .i64 0, .int .i64 0, .string ⟨#[]⟩, .bool false, .int .i64 0] := Own.keep (by with_reducible (repeat' first | assumption | refine Own.drew ?_ | refine Own.drewN ?_ _ | (refine Own.at ?_; first | rfl | (simp; done)) | refine Own.past ?_ _)) hbwn; have c0 := o0wn.cell; have f0 := o0wn.fro; have l0 := o0wn.lt; rw [hs]; have hBn : Below wg.heap.size wg wn := bup hB3 hbwn; have HRn : Hid _ := Row.keep HR.out hbwn; have HOn : Hid (wn.ownsRow wg.heap.size 2 1 (.slice up i uc) i (flatC icell ((l.take i).map asN))) := (show wn.ownsRow wg.heap.size 2 1 (.slice up i uc) i (flatC icell ((l.take i).map asN)) from by have q := HRn.out; unfold Row at q; rw [HL.out] at q; exact q)) | (at_builtin; refine wpList_append_own _ rfl _ _ 41 rfl wg.heap.size 2 i0 _ 1 8 Tryz.underlying41 HI.out HZ0.out HZ1.out HZ2.out rfl (by decide) _ _ _ rfl (HOn.out.alloc _) ⟨wn.heap.size, 0, none⟩ 1 1 (icell (asN y)).toList rfl rfl (by exact news_pl _ _ _) (icell_one _) (by unfold maxLen; omega) (by omega) (by rw [World.size_alloc]; have := hBn.size; omega) ?_; intro v' w1 hown' hgrow _; have R := app_rowv (t := asN y) (hBn.alloc (by have := hBn.size; omega) _) HRn.out (by rw [HL.out]; exact hown') hgrow; rw [take_map HAi.out] at R; have hB4 := R.2; have HR4 : Hid _ := R.1; clear R hown' hgrow))
        exact ⟨⟨i + 1, by go_num, by omega, (show Hid _ from firstC_take HAi.out htk.out HS.out), HR4, hB4⟩, by simp [intOf]; omega⟩
      · exact absurd (firstC_at HAi.out htk.out hs) (by rw [hF.out]; exact fun e => hs e.symm)
    · have hlt' : ¬ (i : Int) < (l.length : Int) := by omega
      have hil : i = l.length := by omega
      subst hil
      have q := HR.out
      rw [List.take_length] at q
      have HRl : Hid _ := fun k hk => (Row.lt q k hk).1
      have HOr : Hid (wr.ownsRow wg.heap.size 2 1 (.slice up l.length uc) l.length (flatC icell (l.map asN))) := (show wr.ownsRow wg.heap.size 2 1 (.slice up l.length uc) l.length (flatC icell (l.map asN)) from by
        have q2 := q
        unfold Row at q2
        rw [List.length_map] at q2
        exact q2)
      have hq : (((l.length : Int) + 1) == 1) = false := beq_eq_false_iff_ne.2 (by omega)
      have hp : (0 : Int) < (l.length : Int) + 1 := by omega
      have hp1 : (1 : Int) < (l.length : Int) + 1 := by omega
      clear HR q htk
      go_wp2_with (at_builtin; refine wpList_append_lies _ rfl _ _ 41 rfl wg.heap.size 2 i0 _ 1 8 Tryz.underlying41 HI.out HZ0.out HZ1.out HZ2.out rfl (by decide) (.slice up l.length uc) l.length (flatC icell (l.map asN)) rfl (HOr.out.alloc _) ⟨wr.heap.size, 0, none⟩ 1 1 (icell 0).toList rfl rfl (by exact news_pl _ _ _) (icell_one _) (by decide) (by unfold maxLen; omega) (by omega) (by first | omega | (rw [World.size_alloc]; omega) | (rw [World.size_alloc]) | (simp; omega)) (wr.heap.size + 1) (by simp) ?_; intro g5 cap5 w5 hown5 hgrow5 hat5 hlt5; have hB5 : Below wg.heap.size wg w5 := Below.grown (hB3.alloc (by omega) _) hgrow5 (Below.size (hB3.alloc (by omega) _)) (fun k hk => (HRl.out k hk)); have o5 := og.keep hB5; have c5 := o5.cell; have f5 := o5.fro; have l5 := o5.lt; have hBw5 := bup hBg hB5; have z5 := hBw5.size; have hcl5 := cells5 hown5; have n0 := hcl5 0 a0 (by simp [hN1.out]); have n1 := hcl5 1 a1 (by simp [hN1.out]); have hg5 : wg.heap.size ≤ g5 := hat5.elim (fun h => HRl.out g5 h) (fun h => by omega); have hlo := og.lt; have hng : ¬ g5 = w.heap.size := (by omega); have hng2 : ¬ w.heap.size = g5 := (by omega); clear hcl5 hown5 hgrow5 hat5)
      go_region_held3 (fun w' => w'.cell? ⟨g5, 0, none⟩ = some (.int .i64 a0) ∧ w'.cell? ⟨g5, 1, none⟩ = some (.int .i64 a1)) ((repeat' apply And.intro) <;> (first | (go_keep; done) | (go_simp; done))) ((go_at_call 20; refine (H1.out _).mono ?_; rintro e we ⟨rfl, hbwe⟩; have hBwe : Below w.heap.size w we := bup (by with_reducible (repeat' first | assumption | exact Below.refl _ _ | refine Below.drew ?_ | refine bdrewN ?_ _ | refine Below.setCell ?_ (by first | exact Nat.le_refl _ | (simp; done) | (simp; omega) | omega) _ | refine Below.alloc ?_ (by first | exact Nat.le_refl _ | (simp; done) | (simp; omega) | omega) _)) hbwe; have zwe := hBwe.size; have o0we : Own we w.heap.size #[.int .i64 0, .int .i64 0, .string ⟨#[]⟩, .bool false, .int .i64 0] := Own.keep (by with_reducible (repeat' first | assumption | refine Own.drew ?_ | refine Own.drewN ?_ _ | (refine Own.at ?_; first | rfl | (simp; done)) | refine Own.past ?_ _)) hbwe; have c0 := o0we.cell; have f0 := o0we.fro; have l0 := o0we.lt; have n0e := (hbwe.cell (p := ⟨g5, 0, none⟩) (by first | exact hlt5 | exact (show g5 < w5.heap.size from hlt5))).trans n0; have n1e := (hbwe.cell (p := ⟨g5, 1, none⟩) (by first | exact hlt5 | exact (show g5 < w5.heap.size from hlt5))).trans n1))
      go_wp2
      exact bodyPost_ret (v := (.agg #[.int .i64 rt, .int .i64 rn, .string rs, .bool rb, .int .i64 rc])) (by simp [results, Tryz.results5, go_sem, c0, f0, l0]) rfl ⟨rfl, by with_reducible (repeat' first | assumption | exact Below.refl _ _ | refine Below.drew ?_ | refine bdrewN ?_ _ | refine Below.setCell ?_ (by first | exact Nat.le_refl _ | (simp; done) | (simp; omega) | omega) _ | refine Below.alloc ?_ (by first | exact Nat.le_refl _ | (simp; done) | (simp; omega) | omega) _)⟩
end Go.Proofs.YtfpbcokfianjaaaGreat
namespace Go.Proofs.YtfpbcokfianjaaaGreat
open Go.RowKit
set_option linter.all false
set_option maxRecDepth 100000 in
set_option maxHeartbeats 1000000 in
theorem d_clamp_no (s : ByteArray) (w : World) (b o c : Nat) (x : Int) (l : List Ag) (hla : b < w.heap.size) (HA : Hid (∀ i y, l[i]? = some y → ∀ j, j < 11 → w.cell? ⟨b, o + i * 11 + j, none⟩ = (Ag.cells y)[j]?)) (hcc : l.length ≤ c) (hN : Hid (Nums l)) (hl40 : l.length ≤ 1099511627776) (h0 : 0 < l.length) (hE : Hid (∀ a ∈ l, EV w a)) (hr : Hid ((hasB (wlI s) (whI s) (l.length : Int) && !l.any nosB) = true)) (ha : firstF l = none) (hF : Hid (firstC l = 0)) (e0 : (s.toList == [71, 67, 68]) = false) (e1 : (s.toList == [76, 67, 77]) = false) (e2 : (s.toList == [67, 76, 65, 77, 80]) = true) (h1 : Hid (l.length = 3)) (a0 a1 a2 : Int) (hN1 : Hid (l.map asN = [a0, a1, a2])) (hz : decide (a2 < a1) = true) : Calls Tryz.prog 5 #[.string s, .slice (some ⟨b, o, none⟩) l.length c, .int .i64 x] w fun e w' => e = .returned (.agg #[.int .i64 4, .int .i64 0, .string ⟨#[]⟩, .bool false, .int .i64 8]) ∧ Below w.heap.size w w' := by
  obtain ⟨i0, hi, hz0, hz1, hz2⟩ := info_parts infoI64
  have HI : Hid _ := hi
  have HZ0 : Hid _ := hz0
  have HZ1 : Hid _ := hz1
  have HZ2 : Hid _ := hz2
  clear hi hz0 hz1 hz2
  have mixed : Tryz.prog.follows .mixedOrders = true := by kernel_rfl
  have hv : AV w (.slice (some ⟨b, o, none⟩) l.length c) l := ⟨_, _, rfl, hcc, fun _ => ⟨b, o, rfl, hla, HA.out⟩⟩
  go_enter Tryz.func5, Tryz.ntmps5
  go_wp2_with (first | (go_at_call 12; refine (args_s _ _ _ (hv.keep (bal _ _)) hN hl40 (fun a ha => (hE.out a ha).keep (bal _ _))).mono ?_; rintro e wa ⟨⟨mp, mc, ok, rfl, hbv⟩, hbwa⟩; have hBwa : Below w.heap.size w wa := bup (by with_reducible (repeat' first | assumption | exact Below.refl _ _ | refine Below.drew ?_ | refine bdrewN ?_ _ | refine Below.setCell ?_ (by first | exact Nat.le_refl _ | (simp; done) | (simp; omega) | omega) _ | refine Below.alloc ?_ (by first | exact Nat.le_refl _ | (simp; done) | (simp; omega) | omega) _)) hbwa; have zwa := hBwa.size; have o0wa : Own wa (w.heap.size) #[.int .i64 0, .int .i64 0, .string ⟨#[]⟩, .bool false, .int .i64 0] := Own.keep (by with_reducible (repeat' first | assumption | refine Own.drew ?_ | refine Own.drewN ?_ _ | (refine Own.at ?_; first | rfl | (simp; done)) | refine Own.past ?_ _)) hbwa; have c0 := o0wa.cell; have f0 := o0wa.fro; have l0 := o0wa.lt; obtain rfl := ok_t hr.out hbv.out.2) | (go_at_call 13; refine (rtakes_any _ _ _ _ hbv.out.1 (by rw [List.length_map]; omega)).mono ?_; rintro e wt ⟨rfl, hbwt⟩; have hBwt : Below w.heap.size w wt := bup (by with_reducible (repeat' first | assumption | exact Below.refl _ _ | refine Below.drew ?_ | refine bdrewN ?_ _ | refine Below.setCell ?_ (by first | exact Nat.le_refl _ | (simp; done) | (simp; omega) | omega) _ | refine Below.alloc ?_ (by first | exact Nat.le_refl _ | (simp; done) | (simp; omega) | omega) _)) hbwt; have zwt := hBwt.size; have o0wt : Own wt (w.heap.size) #[.int .i64 0, .int .i64 0, .string ⟨#[]⟩, .bool false, .int .i64 0] := Own.keep (by with_reducible (repeat' first | assumption | refine Own.drew ?_ | refine Own.drewN ?_ _ | (refine Own.at ?_; first | rfl | (simp; done)) | refine Own.past ?_ _)) hbwt; have c0 := o0wt.cell; have f0 := o0wt.fro; have l0 := o0wt.lt; rw [taken hr.out]) | (go_at_call 15; refine (dfault_v _ _ _ (hv.keep (by assumption)) (by omega) hN h0).mono ?_; rintro e wf ⟨rfl, hbwf⟩; have hBwf : Below w.heap.size w wf := bup (by with_reducible (repeat' first | assumption | exact Below.refl _ _ | refine Below.drew ?_ | refine bdrewN ?_ _ | refine Below.setCell ?_ (by first | exact Nat.le_refl _ | (simp; done) | (simp; omega) | omega) _ | refine Below.alloc ?_ (by first | exact Nat.le_refl _ | (simp; done) | (simp; omega) | omega) _)) hbwf; have zwf := hBwf.size; have o0wf : Own wf (w.heap.size) #[.int .i64 0, .int .i64 0, .string ⟨#[]⟩, .bool false, .int .i64 0] := Own.keep (by with_reducible (repeat' first | assumption | refine Own.drew ?_ | refine Own.drewN ?_ _ | (refine Own.at ?_; first | rfl | (simp; done)) | refine Own.past ?_ _)) hbwf; have c0 := o0wf.cell; have f0 := o0wf.fro; have l0 := o0wf.lt; rw [ha]; dsimp only [faultOut, v0]))
  obtain ⟨wg, hwg⟩ : ∃ wg, wf.alloc (.cells #[.int .i64 0, .int .i64 0, .string ⟨#[]⟩, .bool false, .int .i64 0] 26) = wg := ⟨_, rfl⟩
  have hBg : Below w.heap.size w wg := by rw [← hwg]; exact hBwf.alloc (by omega) _
  have og : Own wg w.heap.size #[.int .i64 0, .int .i64 0, .string ⟨#[]⟩, .bool false, .int .i64 0] := by rw [← hwg]; exact o0wf.past _
  rw [hwg]
  clear hwg c0 f0 l0 o0wf
  have zg := hBg.size
  go_loopw [11, 12] (fun u j w' => ∃ i : Nat, j = .int .i64 i ∧ i ≤ l.length ∧ Hid (∀ a ∈ l.take i, asC a = 0) ∧ Hid (Row icell 1 2 w' wg.heap.size u ((l.take i).map asN)) ∧ Below wg.heap.size wg w') (fun _ j _ => l.length - (intOf j).toNat)
  case atStart => exact ⟨0, rfl, by omega, (show Hid _ from fun a ha => by simp at ha), Row.nil _ _, Below.refl _ _⟩
  case round =>
    obtain ⟨i, rfl, hii, htk, HR, hB3⟩ := hrel
    have z3 := hB3.size
    have hBwr : Below w.heap.size w wr := bup hBg hB3
    have hlen : ((l.take i).map asN).length = i := by rw [List.length_map, List.length_take]; omega
    have HL : Hid _ := hlen
    obtain ⟨up, uc, hu, huc, _⟩ := Row.slice HR.out
    have HUC : Hid _ := huc
    clear huc
    rw [hlen] at hu
    clear hlen
    subst hu
    have orr := og.keep hB3
    have cr := orr.cell
    have fr := orr.fro
    have lr := orr.lt
    by_cases hlt : i < l.length
    · have hlt' : (i : Int) < (l.length : Int) := by omega
      have hai : l[i]? = some (l[i]'hlt) := List.getElem?_eq_getElem _
      have ca' := fun j hj => (show w.cell? ⟨b, o + i * 11 + j, none⟩ = _ from HA.out i _ hai j hj)
      have hin : I64 (l[i]'hlt).n := hN.out _ (List.getElem_mem _)
      have HAi : Hid _ := hai
      revert ca' HAi hin
      generalize (l[i]'hlt) = y
      intro ca' hin HAi
      clear hai
      have y1 := (hBwr.cell (p := ⟨b, o + i * 11 + 1, none⟩) hla).trans (ca' 1 (by decide))
      have y2 := (hBwr.cell (p := ⟨b, o + i * 11 + 2, none⟩) hla).trans (ca' 2 (by decide))
      have y3 := (hBwr.cell (p := ⟨b, o + i * 11 + 3, none⟩) hla).trans (ca' 3 (by decide))
      have y4 := (hBwr.cell (p := ⟨b, o + i * 11 + 4, none⟩) hla).trans (ca' 4 (by decide))
      have y5 := (hBwr.cell (p := ⟨b, o + i * 11 + 5, none⟩) hla).trans (ca' 5 (by decide))
      clear ca'
      have x1 : wr.cell? ⟨b, o + i * 11 + 1, none⟩ = some (.int .i64 y.t) := y1
      have x2 : wr.cell? ⟨b, o + i * 11 + 2, none⟩ = some (.int .i64 y.n) := y2
      have x3 : wr.cell? ⟨b, o + i * 11 + 3, none⟩ = some (.string y.s) := y3
      have x4 : wr.cell? ⟨b, o + i * 11 + 4, none⟩ = some (.bool y.b) := y4
      have x5 : wr.cell? ⟨b, o + i * 11 + 5, none⟩ = some (.int .i64 y.c) := y5
      clear y1 y2 y3 y4 y5
      by_cases hs : asC y = 0
      · have HS : Hid (asC y = 0) := hs
        unfold asC at hs
        go_wp2_with (first | (go_at_call 16; refine (raNumberV _ _ _ _ _ _ hin).mono ?_; rintro e wn ⟨rfl, hbwn⟩; have hBwn : Below w.heap.size w wn := bup (by with_reducible (repeat' first | assumption | exact Below.refl _ _ | refine Below.drew ?_ | refine bdrewN ?_ _ | refine Below.setCell ?_ (by first | exact Nat.le_refl _ | (simp; done) | (simp; omega) | omega) _ | refine Below.alloc ?_ (by first | exact Nat.le_refl _ | (simp; done) | (simp; omega) | omega) _)) hbwn; have zwn := hBwn.size; have o0wn : Own wn (w.heap.size) #[.int .i64 0, .int .i64 0, .string ⟨#[]⟩, .bool false, .int .i64 0] := Own.keep (by with_reducible (repeat' first | assumption | refine Own.drew ?_ | refine Own.drewN ?_ _ | (refine Own.at ?_; first | rfl | (simp; done)) | refine Own.past ?_ _)) hbwn; have c0 := o0wn.cell; have f0 := o0wn.fro; have l0 := o0wn.lt; rw [hs]; have hBn : Below wg.heap.size wg wn := bup hB3 hbwn; have HRn : Hid _ := Row.keep HR.out hbwn; have HOn : Hid (wn.ownsRow wg.heap.size 2 1 (.slice up i uc) i (flatC icell ((l.take i).map asN))) := (show wn.ownsRow wg.heap.size 2 1 (.slice up i uc) i (flatC icell ((l.take i).map asN)) from by have q := HRn.out; unfold Row at q; rw [HL.out] at q; exact q)) | (at_builtin; refine wpList_append_own _ rfl _ _ 41 rfl wg.heap.size 2 i0 _ 1 8 Tryz.underlying41 HI.out HZ0.out HZ1.out HZ2.out rfl (by decide) _ _ _ rfl (HOn.out.alloc _) ⟨wn.heap.size, 0, none⟩ 1 1 (icell (asN y)).toList rfl rfl (by exact news_pl _ _ _) (icell_one _) (by unfold maxLen; omega) (by omega) (by rw [World.size_alloc]; have := hBn.size; omega) ?_; intro v' w1 hown' hgrow _; have R := app_rowv (t := asN y) (hBn.alloc (by have := hBn.size; omega) _) HRn.out (by rw [HL.out]; exact hown') hgrow; rw [take_map HAi.out] at R; have hB4 := R.2; have HR4 : Hid _ := R.1; clear R hown' hgrow))
        exact ⟨⟨i + 1, by go_num, by omega, (show Hid _ from firstC_take HAi.out htk.out HS.out), HR4, hB4⟩, by simp [intOf]; omega⟩
      · exact absurd (firstC_at HAi.out htk.out hs) (by rw [hF.out]; exact fun e => hs e.symm)
    · have hlt' : ¬ (i : Int) < (l.length : Int) := by omega
      have hil : i = l.length := by omega
      subst hil
      have q := HR.out
      rw [List.take_length] at q
      have hup : ∃ g, up = some ⟨g, 0, none⟩ ∧ g < wr.heap.size ∧ wg.heap.size ≤ g ∧ ∀ i y, (l.map asN)[i]? = some y → wr.cell? ⟨g, i, none⟩ = some (.int .i64 y) := by
        rcases Row.two icell_size q with ⟨e, _⟩ | ⟨g, cap, e, hgb, hgl, _, _, hcl, _⟩
        · injection e with e1 e2 e3; omega
        · injection e with e1 e2 e3
          exact ⟨g, e1, hgl, hgb, fun i y hi => by have := hcl i y hi 0 (by decide); simpa [icell] using this⟩
      obtain ⟨g, rfl, hgl, hgg, hcl⟩ := hup
      have hlo := og.lt
      have hng : ¬ g = w.heap.size := by omega
      have hng2 : ¬ w.heap.size = g := by omega
      rw [hN1.out] at hcl
      have n0 := hcl 0 a0 rfl
      have n1 := hcl 1 a1 rfl
      have n2 := hcl 2 a2 rfl
      have hp : (0 : Int) < (l.length : Int) := by omega
      have hp1 : (1 : Int) < (l.length : Int) := by have := h1.out; omega
      have hp2 : (2 : Int) < (l.length : Int) := by have := h1.out; omega
      clear hcl HR q htk
      go_wp2
      go_quiet (fail)
      go_wp2_with (go_at_call 14; refine (derr_ok _ _ (by decide) (by decide)).mono ?_; rintro e we ⟨rfl, hbwe⟩; have hBwe : Below w.heap.size w we := bup (by with_reducible (repeat' first | assumption | exact Below.refl _ _ | refine Below.drew ?_ | refine bdrewN ?_ _ | refine Below.setCell ?_ (by first | exact Nat.le_refl _ | (simp; done) | (simp; omega) | omega) _ | refine Below.alloc ?_ (by first | exact Nat.le_refl _ | (simp; done) | (simp; omega) | omega) _)) hbwe; have zwe := hBwe.size; have o0we : Own we w.heap.size #[.int .i64 0, .int .i64 0, .string ⟨#[]⟩, .bool false, .int .i64 0] := Own.keep (by with_reducible (repeat' first | assumption | refine Own.drew ?_ | refine Own.drewN ?_ _ | (refine Own.at ?_; first | rfl | (simp; done)) | refine Own.past ?_ _)) hbwe; have c0 := o0we.cell; have f0 := o0we.fro; have l0 := o0we.lt)
      exact bodyPost_ret (v := .agg #[.int .i64 4, .int .i64 0, .string ⟨#[]⟩, .bool false, .int .i64 8]) (by simp [results, Tryz.results5, go_sem, c0, f0, l0]) rfl ⟨rfl, by with_reducible (repeat' first | assumption | exact Below.refl _ _ | refine Below.drew ?_ | refine bdrewN ?_ _ | refine Below.setCell ?_ (by first | exact Nat.le_refl _ | (simp; done) | (simp; omega) | omega) _ | refine Below.alloc ?_ (by first | exact Nat.le_refl _ | (simp; done) | (simp; omega) | omega) _)⟩
set_option maxRecDepth 100000 in
set_option maxHeartbeats 1000000 in
theorem d_clamp_ok (s : ByteArray) (w : World) (b o c : Nat) (x : Int) (l : List Ag) (hla : b < w.heap.size) (HA : Hid (∀ i y, l[i]? = some y → ∀ j, j < 11 → w.cell? ⟨b, o + i * 11 + j, none⟩ = (Ag.cells y)[j]?)) (hcc : l.length ≤ c) (hN : Hid (Nums l)) (hl40 : l.length ≤ 1099511627776) (h0 : 0 < l.length) (hE : Hid (∀ a ∈ l, EV w a)) (hr : Hid ((hasB (wlI s) (whI s) (l.length : Int) && !l.any nosB) = true)) (ha : firstF l = none) (hF : Hid (firstC l = 0)) (e0 : (s.toList == [71, 67, 68]) = false) (e1 : (s.toList == [76, 67, 77]) = false) (e2 : (s.toList == [67, 76, 65, 77, 80]) = true) (h1 : Hid (l.length = 3)) (a0 a1 a2 : Int) (hN1 : Hid (l.map asN = [a0, a1, a2])) (hz : decide (a2 < a1) = false) (hnum : ∀ W : World, Calls Tryz.prog 18 #[.int .i64 (max a1 (min a0 a2))] W fun e w' => e = .returned (.agg #[.int .i64 1, .int .i64 (max a1 (min a0 a2)), .string ⟨#[]⟩, .bool false, .int .i64 0]) ∧ Below W.heap.size W w') : Calls Tryz.prog 5 #[.string s, .slice (some ⟨b, o, none⟩) l.length c, .int .i64 x] w fun e w' => e = .returned (.agg #[.int .i64 1, .int .i64 (max a1 (min a0 a2)), .string ⟨#[]⟩, .bool false, .int .i64 0]) ∧ Below w.heap.size w w' := by
  obtain ⟨i0, hi, hz0, hz1, hz2⟩ := info_parts infoI64
  have HI : Hid _ := hi
  have HZ0 : Hid _ := hz0
  have HZ1 : Hid _ := hz1
  have HZ2 : Hid _ := hz2
  clear hi hz0 hz1 hz2
  have mixed : Tryz.prog.follows .mixedOrders = true := by kernel_rfl
  have hv : AV w (.slice (some ⟨b, o, none⟩) l.length c) l := ⟨_, _, rfl, hcc, fun _ => ⟨b, o, rfl, hla, HA.out⟩⟩
  go_enter Tryz.func5, Tryz.ntmps5
  go_wp2_with (first | (go_at_call 12; refine (args_s _ _ _ (hv.keep (bal _ _)) hN hl40 (fun a ha => (hE.out a ha).keep (bal _ _))).mono ?_; rintro e wa ⟨⟨mp, mc, ok, rfl, hbv⟩, hbwa⟩; have hBwa : Below w.heap.size w wa := bup (by with_reducible (repeat' first | assumption | exact Below.refl _ _ | refine Below.drew ?_ | refine bdrewN ?_ _ | refine Below.setCell ?_ (by first | exact Nat.le_refl _ | (simp; done) | (simp; omega) | omega) _ | refine Below.alloc ?_ (by first | exact Nat.le_refl _ | (simp; done) | (simp; omega) | omega) _)) hbwa; have zwa := hBwa.size; have o0wa : Own wa (w.heap.size) #[.int .i64 0, .int .i64 0, .string ⟨#[]⟩, .bool false, .int .i64 0] := Own.keep (by with_reducible (repeat' first | assumption | refine Own.drew ?_ | refine Own.drewN ?_ _ | (refine Own.at ?_; first | rfl | (simp; done)) | refine Own.past ?_ _)) hbwa; have c0 := o0wa.cell; have f0 := o0wa.fro; have l0 := o0wa.lt; obtain rfl := ok_t hr.out hbv.out.2) | (go_at_call 13; refine (rtakes_any _ _ _ _ hbv.out.1 (by rw [List.length_map]; omega)).mono ?_; rintro e wt ⟨rfl, hbwt⟩; have hBwt : Below w.heap.size w wt := bup (by with_reducible (repeat' first | assumption | exact Below.refl _ _ | refine Below.drew ?_ | refine bdrewN ?_ _ | refine Below.setCell ?_ (by first | exact Nat.le_refl _ | (simp; done) | (simp; omega) | omega) _ | refine Below.alloc ?_ (by first | exact Nat.le_refl _ | (simp; done) | (simp; omega) | omega) _)) hbwt; have zwt := hBwt.size; have o0wt : Own wt (w.heap.size) #[.int .i64 0, .int .i64 0, .string ⟨#[]⟩, .bool false, .int .i64 0] := Own.keep (by with_reducible (repeat' first | assumption | refine Own.drew ?_ | refine Own.drewN ?_ _ | (refine Own.at ?_; first | rfl | (simp; done)) | refine Own.past ?_ _)) hbwt; have c0 := o0wt.cell; have f0 := o0wt.fro; have l0 := o0wt.lt; rw [taken hr.out]) | (go_at_call 15; refine (dfault_v _ _ _ (hv.keep (by assumption)) (by omega) hN h0).mono ?_; rintro e wf ⟨rfl, hbwf⟩; have hBwf : Below w.heap.size w wf := bup (by with_reducible (repeat' first | assumption | exact Below.refl _ _ | refine Below.drew ?_ | refine bdrewN ?_ _ | refine Below.setCell ?_ (by first | exact Nat.le_refl _ | (simp; done) | (simp; omega) | omega) _ | refine Below.alloc ?_ (by first | exact Nat.le_refl _ | (simp; done) | (simp; omega) | omega) _)) hbwf; have zwf := hBwf.size; have o0wf : Own wf (w.heap.size) #[.int .i64 0, .int .i64 0, .string ⟨#[]⟩, .bool false, .int .i64 0] := Own.keep (by with_reducible (repeat' first | assumption | refine Own.drew ?_ | refine Own.drewN ?_ _ | (refine Own.at ?_; first | rfl | (simp; done)) | refine Own.past ?_ _)) hbwf; have c0 := o0wf.cell; have f0 := o0wf.fro; have l0 := o0wf.lt; rw [ha]; dsimp only [faultOut, v0]))
  obtain ⟨wg, hwg⟩ : ∃ wg, wf.alloc (.cells #[.int .i64 0, .int .i64 0, .string ⟨#[]⟩, .bool false, .int .i64 0] 26) = wg := ⟨_, rfl⟩
  have hBg : Below w.heap.size w wg := by rw [← hwg]; exact hBwf.alloc (by omega) _
  have og : Own wg w.heap.size #[.int .i64 0, .int .i64 0, .string ⟨#[]⟩, .bool false, .int .i64 0] := by rw [← hwg]; exact o0wf.past _
  rw [hwg]
  clear hwg c0 f0 l0 o0wf
  have zg := hBg.size
  go_loopw [11, 12] (fun u j w' => ∃ i : Nat, j = .int .i64 i ∧ i ≤ l.length ∧ Hid (∀ a ∈ l.take i, asC a = 0) ∧ Hid (Row icell 1 2 w' wg.heap.size u ((l.take i).map asN)) ∧ Below wg.heap.size wg w') (fun _ j _ => l.length - (intOf j).toNat)
  case atStart => exact ⟨0, rfl, by omega, (show Hid _ from fun a ha => by simp at ha), Row.nil _ _, Below.refl _ _⟩
  case round =>
    obtain ⟨i, rfl, hii, htk, HR, hB3⟩ := hrel
    have z3 := hB3.size
    have hBwr : Below w.heap.size w wr := bup hBg hB3
    have hlen : ((l.take i).map asN).length = i := by rw [List.length_map, List.length_take]; omega
    have HL : Hid _ := hlen
    obtain ⟨up, uc, hu, huc, _⟩ := Row.slice HR.out
    have HUC : Hid _ := huc
    clear huc
    rw [hlen] at hu
    clear hlen
    subst hu
    have orr := og.keep hB3
    have cr := orr.cell
    have fr := orr.fro
    have lr := orr.lt
    by_cases hlt : i < l.length
    · have hlt' : (i : Int) < (l.length : Int) := by omega
      have hai : l[i]? = some (l[i]'hlt) := List.getElem?_eq_getElem _
      have ca' := fun j hj => (show w.cell? ⟨b, o + i * 11 + j, none⟩ = _ from HA.out i _ hai j hj)
      have hin : I64 (l[i]'hlt).n := hN.out _ (List.getElem_mem _)
      have HAi : Hid _ := hai
      revert ca' HAi hin
      generalize (l[i]'hlt) = y
      intro ca' hin HAi
      clear hai
      have y1 := (hBwr.cell (p := ⟨b, o + i * 11 + 1, none⟩) hla).trans (ca' 1 (by decide))
      have y2 := (hBwr.cell (p := ⟨b, o + i * 11 + 2, none⟩) hla).trans (ca' 2 (by decide))
      have y3 := (hBwr.cell (p := ⟨b, o + i * 11 + 3, none⟩) hla).trans (ca' 3 (by decide))
      have y4 := (hBwr.cell (p := ⟨b, o + i * 11 + 4, none⟩) hla).trans (ca' 4 (by decide))
      have y5 := (hBwr.cell (p := ⟨b, o + i * 11 + 5, none⟩) hla).trans (ca' 5 (by decide))
      clear ca'
      have x1 : wr.cell? ⟨b, o + i * 11 + 1, none⟩ = some (.int .i64 y.t) := y1
      have x2 : wr.cell? ⟨b, o + i * 11 + 2, none⟩ = some (.int .i64 y.n) := y2
      have x3 : wr.cell? ⟨b, o + i * 11 + 3, none⟩ = some (.string y.s) := y3
      have x4 : wr.cell? ⟨b, o + i * 11 + 4, none⟩ = some (.bool y.b) := y4
      have x5 : wr.cell? ⟨b, o + i * 11 + 5, none⟩ = some (.int .i64 y.c) := y5
      clear y1 y2 y3 y4 y5
      by_cases hs : asC y = 0
      · have HS : Hid (asC y = 0) := hs
        unfold asC at hs
        go_wp2_with (first | (go_at_call 16; refine (raNumberV _ _ _ _ _ _ hin).mono ?_; rintro e wn ⟨rfl, hbwn⟩; have hBwn : Below w.heap.size w wn := bup (by with_reducible (repeat' first | assumption | exact Below.refl _ _ | refine Below.drew ?_ | refine bdrewN ?_ _ | refine Below.setCell ?_ (by first | exact Nat.le_refl _ | (simp; done) | (simp; omega) | omega) _ | refine Below.alloc ?_ (by first | exact Nat.le_refl _ | (simp; done) | (simp; omega) | omega) _)) hbwn; have zwn := hBwn.size; have o0wn : Own wn (w.heap.size) #[.int .i64 0, .int .i64 0, .string ⟨#[]⟩, .bool false, .int .i64 0] := Own.keep (by with_reducible (repeat' first | assumption | refine Own.drew ?_ | refine Own.drewN ?_ _ | (refine Own.at ?_; first | rfl | (simp; done)) | refine Own.past ?_ _)) hbwn; have c0 := o0wn.cell; have f0 := o0wn.fro; have l0 := o0wn.lt; rw [hs]; have hBn : Below wg.heap.size wg wn := bup hB3 hbwn; have HRn : Hid _ := Row.keep HR.out hbwn; have HOn : Hid (wn.ownsRow wg.heap.size 2 1 (.slice up i uc) i (flatC icell ((l.take i).map asN))) := (show wn.ownsRow wg.heap.size 2 1 (.slice up i uc) i (flatC icell ((l.take i).map asN)) from by have q := HRn.out; unfold Row at q; rw [HL.out] at q; exact q)) | (at_builtin; refine wpList_append_own _ rfl _ _ 41 rfl wg.heap.size 2 i0 _ 1 8 Tryz.underlying41 HI.out HZ0.out HZ1.out HZ2.out rfl (by decide) _ _ _ rfl (HOn.out.alloc _) ⟨wn.heap.size, 0, none⟩ 1 1 (icell (asN y)).toList rfl rfl (by exact news_pl _ _ _) (icell_one _) (by unfold maxLen; omega) (by omega) (by rw [World.size_alloc]; have := hBn.size; omega) ?_; intro v' w1 hown' hgrow _; have R := app_rowv (t := asN y) (hBn.alloc (by have := hBn.size; omega) _) HRn.out (by rw [HL.out]; exact hown') hgrow; rw [take_map HAi.out] at R; have hB4 := R.2; have HR4 : Hid _ := R.1; clear R hown' hgrow))
        exact ⟨⟨i + 1, by go_num, by omega, (show Hid _ from firstC_take HAi.out htk.out HS.out), HR4, hB4⟩, by simp [intOf]; omega⟩
      · exact absurd (firstC_at HAi.out htk.out hs) (by rw [hF.out]; exact fun e => hs e.symm)
    · have hlt' : ¬ (i : Int) < (l.length : Int) := by omega
      have hil : i = l.length := by omega
      subst hil
      have q := HR.out
      rw [List.take_length] at q
      have hup : ∃ g, up = some ⟨g, 0, none⟩ ∧ g < wr.heap.size ∧ wg.heap.size ≤ g ∧ ∀ i y, (l.map asN)[i]? = some y → wr.cell? ⟨g, i, none⟩ = some (.int .i64 y) := by
        rcases Row.two icell_size q with ⟨e, _⟩ | ⟨g, cap, e, hgb, hgl, _, _, hcl, _⟩
        · injection e with e1 e2 e3; omega
        · injection e with e1 e2 e3
          exact ⟨g, e1, hgl, hgb, fun i y hi => by have := hcl i y hi 0 (by decide); simpa [icell] using this⟩
      obtain ⟨g, rfl, hgl, hgg, hcl⟩ := hup
      have hlo := og.lt
      have hng : ¬ g = w.heap.size := by omega
      have hng2 : ¬ w.heap.size = g := by omega
      rw [hN1.out] at hcl
      have n0 := hcl 0 a0 rfl
      have n1 := hcl 1 a1 rfl
      have n2 := hcl 2 a2 rfl
      have hp : (0 : Int) < (l.length : Int) := by omega
      have hp1 : (1 : Int) < (l.length : Int) := by have := h1.out; omega
      have hp2 : (2 : Int) < (l.length : Int) := by have := h1.out; omega
      clear hcl HR q htk
      go_wp2
      go_quiet (fail)
      go_wp2
      go_region_held3 (fun w' => w'.cell? ⟨g, 0, none⟩ = some (.int .i64 a0) ∧ w'.cell? ⟨g, 1, none⟩ = some (.int .i64 a1) ∧ w'.cell? ⟨g, 2, none⟩ = some (.int .i64 a2)) ((repeat' apply And.intro) <;> (first | (go_keep; done) | (go_simp; done))) ((go_at_call 18; refine (hnum _).mono ?_; rintro e we ⟨rfl, hbwe⟩; have hBwe : Below w.heap.size w we := bup (by with_reducible (repeat' first | assumption | exact Below.refl _ _ | refine Below.drew ?_ | refine bdrewN ?_ _ | refine Below.setCell ?_ (by first | exact Nat.le_refl _ | (simp; done) | (simp; omega) | omega) _ | refine Below.alloc ?_ (by first | exact Nat.le_refl _ | (simp; done) | (simp; omega) | omega) _)) hbwe; have zwe := hBwe.size; have o0we : Own we w.heap.size #[.int .i64 0, .int .i64 0, .string ⟨#[]⟩, .bool false, .int .i64 0] := Own.keep (by with_reducible (repeat' first | assumption | refine Own.drew ?_ | refine Own.drewN ?_ _ | (refine Own.at ?_; first | rfl | (simp; done)) | refine Own.past ?_ _)) hbwe; have c0 := o0we.cell; have f0 := o0we.fro; have l0 := o0we.lt; have n0e := (hbwe.cell (p := ⟨g, 0, none⟩) (by first | exact hgl | exact (show g < wr.heap.size from hgl))).trans n0; have n1e := (hbwe.cell (p := ⟨g, 1, none⟩) (by first | exact hgl | exact (show g < wr.heap.size from hgl))).trans n1; have n2e := (hbwe.cell (p := ⟨g, 2, none⟩) (by first | exact hgl | exact (show g < wr.heap.size from hgl))).trans n2))
      go_wp2
      exact bodyPost_ret (v := .agg #[.int .i64 1, .int .i64 (max a1 (min a0 a2)), .string ⟨#[]⟩, .bool false, .int .i64 0]) (by simp [results, Tryz.results5, go_sem, c0, f0, l0]) rfl ⟨rfl, by with_reducible (repeat' first | assumption | exact Below.refl _ _ | refine Below.drew ?_ | refine bdrewN ?_ _ | refine Below.setCell ?_ (by first | exact Nat.le_refl _ | (simp; done) | (simp; omega) | omega) _ | refine Below.alloc ?_ (by first | exact Nat.le_refl _ | (simp; done) | (simp; omega) | omega) _)⟩
end Go.Proofs.YtfpbcokfianjaaaGreat
