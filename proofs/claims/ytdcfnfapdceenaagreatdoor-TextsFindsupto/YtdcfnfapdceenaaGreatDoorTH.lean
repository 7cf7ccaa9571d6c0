/- The law's known: it returns true. New memory alone is made. The condition: the table of powers lies as laid. -/
import Derived.Test.YtdcfnfapdceenaaGreatDoorTG
import Derived.Sort.AtCall
namespace Go.Proofs.YtdcfnfapdceenaaGreatDoor
open Go.RowKit
set_option linter.all false
theorem nm_mid : nmI ⟨#[77, 73, 68]⟩ = 3 := by kernel_rfl
theorem nm_len : nmI ⟨#[76, 69, 78]⟩ = 0 := by kernel_rfl
theorem nm_rev : decide (nmI ⟨#[82, 69, 86]⟩ < 16) = true := by kernel_rfl
theorem nm_abs : decide (nmI ⟨#[65, 66, 83]⟩ < 16) = false := by kernel_rfl
theorem mod_s {n : Int} (h1 : 0 ≤ n) (h2 : n ≤ 1000000) : Mod n := ⟨by omega, by omega⟩
/-- MID of a text and two whole numbers. -/
theorem call_mid (s : ByteArray) (i n : Int) (w : World) (v : Value) (x : Int) (hv : AV w v [argT s, argW i, argW n]) (hP : Pow w) (hi : Mod i) (hn : Mod n) (hi1 : 1 ≤ i) (hn0 : 0 ≤ n) (hx : 0 ≤ x) (hx2 : x ≤ 1024) (hs : s.size ≤ 9223372036854775807) :
    Calls Tryz.prog 9 #[.string ⟨#[77, 73, 68]⟩, v, .int .i64 x] w fun e w' => e = .returned (.agg #[.int .i64 (toT (midB s i n) x), .int .i64 (0), .string (toS (midB s i n) x), .bool false, .int .i64 (toC (midB s i n) x)]) ∧ Below w.heap.size w w' := by
  refine call_ok _ 3 nm_mid (by decide) w v x _ [s] [i, n] hv (by simp) (by simp) hP (show hasB (loI 3) (hiI 3) 3 = true by decide) ?_ ?_ ?_ ?_ hx hx2 _ _ _ _ _ ?_
  · intro a ha
    simp at ha
    rcases ha with rfl | rfl | rfl
    · exact okT_T s
    · exact okT_W hi
    · exact okT_W hn
  · show [aT (argT s)] = [s]; rw [aT_T]
  · show [aI (argW i), aI (argW n)] = [i, n]; rw [aI_W hi, aI_W hn]
  · intro a ha
    have ha' : a ∈ [argW i, argW n] := ha
    simp at ha'
    rcases ha' with rfl | rfl
    · exact cd_W hi
    · exact cd_W hn
  · intro W tp tc np nc h1 h2
    obtain ⟨_, g, rfl, hg, hc⟩ := SRow.lay h1 (by simp)
    obtain ⟨_, h, rfl, hh, hd⟩ := IRow.lay h2 (by simp)
    exact mid_ok g tc h nc x i n s W hg hh (hc 0 s rfl) (hd 0 i rfl) (hd 1 n rfl) hi1 (by have := hi.2; omega) hn0 (by have := hn.2; omega) hs hx2
theorem call_len (s : ByteArray) (w : World) (v : Value) (x : Int) (hv : AV w v [argT s]) (hP : Pow w) (hx : 0 ≤ x) (hx2 : x ≤ 1024) (hs : s.size ≤ 900000000000000) :
    Calls Tryz.prog 9 #[.string ⟨#[76, 69, 78]⟩, v, .int .i64 x] w fun e w' => e = .returned (.agg #[.int .i64 (1), .int .i64 ((s.size : Int) * 10000), .string (⟨#[]⟩), .bool false, .int .i64 (0)]) ∧ Below w.heap.size w w' := by
  refine call_ok _ 0 nm_len (by decide) w v x _ [s] [] hv (by simp) (by simp) hP (show hasB (loI 0) (hiI 0) 1 = true by decide) ?_ ?_ rfl ?_ hx hx2 _ _ _ _ _ ?_
  · intro a ha
    simp at ha
    subst ha
    exact okT_T s
  · show [aT (argT s)] = [s]; rw [aT_T]
  · intro a ha
    have ha' : a ∈ ([] : List Ag) := ha
    simp at ha'
  · intro W tp tc np nc h1 h2
    obtain ⟨_, g, rfl, hg, hc⟩ := SRow.lay h1 (by simp)
    exact len_any g tc np 0 nc x s W hg (hc 0 s rfl) hs
theorem mid_lit : midB ⟨#[97, 98, 99, 100]⟩ 2 2 = ⟨#[98, 99]⟩ := by kernel_rfl
theorem toT_lit : toT ⟨#[98, 99]⟩ 8 = 2 := by kernel_rfl
theorem toS_lit : toS ⟨#[98, 99]⟩ 8 = ⟨#[98, 99]⟩ := by kernel_rfl
theorem toC_lit : toC ⟨#[98, 99]⟩ 8 = 0 := by kernel_rfl
theorem k_mid (w : World) (v : Value) (hv : AV w v [argT ⟨#[97, 98, 99, 100]⟩, argW 2, argW 2]) (hP : Pow w) : Calls Tryz.prog 9 #[.string ⟨#[77, 73, 68]⟩, v, .int .i64 8] w fun e w' => e = .returned (.agg #[.int .i64 (2), .int .i64 (0), .string (⟨#[98, 99]⟩), .bool false, .int .i64 (0)]) ∧ Below w.heap.size w w' := by
  have h := call_mid ⟨#[97, 98, 99, 100]⟩ 2 2 w v 8 hv hP (mod_s (by decide) (by decide)) (mod_s (by decide) (by decide)) (by decide) (by decide) (by decide) (by decide) (by decide)
  rw [mid_lit, toT_lit, toS_lit, toC_lit] at h
  exact h
theorem k_len (w : World) (v : Value) (hv : AV w v [argT ⟨#[97, 98, 99]⟩]) (hP : Pow w) : Calls Tryz.prog 9 #[.string ⟨#[76, 69, 78]⟩, v, .int .i64 8] w fun e w' => e = .returned (.agg #[.int .i64 (1), .int .i64 (30000), .string (⟨#[]⟩), .bool false, .int .i64 (0)]) ∧ Below w.heap.size w w' :=
  call_len ⟨#[97, 98, 99]⟩ w v 8 hv hP (by decide) (by decide) (by decide)
theorem fld (n : Int) (s : ByteArray) (t : Int) (w : World) : (Instr.field 38 (.agg #[.bool false, .int .i64 (t), .int .i64 (n), .string (s), .bool false, .int .i64 0, .int .i64 0, .int .i64 0, .int .i64 0, .int .i64 0, .slice none 0 0]) 1).run Tryz.prog w = .ok (.agg #[.int .i64 (t), .int .i64 (n), .string (s), .bool false, .int .i64 (0)]) w := by kernel_rfl
theorem s_bc : sameB 2 0 ⟨#[98, 99]⟩ false 0 2 0 ⟨#[98, 99]⟩ false 0 = true := by simp [sameB]
theorem s_3 : sameB 1 30000 ⟨#[]⟩ false 0 1 30000 ⟨#[]⟩ false 0 = true := by simp [sameB]
theorem k_is (w : World) : Calls Tryz.prog 19 #[(.agg #[.int .i64 (2), .int .i64 (0), .string (⟨#[98, 99]⟩), .bool false, .int .i64 (0)]), .string ⟨#[98, 99]⟩] w fun e w' => e = .returned (.bool true) ∧ Below w.heap.size w w' := by
  have h := lis 2 0 ⟨#[98, 99]⟩ false 0 ⟨#[98, 99]⟩ w
  rw [s_bc] at h
  exact h
theorem k_3 (w : World) : Calls Tryz.prog 18 #[.int .i64 3] w fun e w' => e = .returned (.agg #[.bool false, .int .i64 (1), .int .i64 (30000), .string (⟨#[]⟩), .bool false, .int .i64 0, .int .i64 0, .int .i64 0, .int .i64 0, .int .i64 0, .slice none 0 0]) ∧ Below w.heap.size w w' := lwhole 3 w (mod_s (by decide) (by decide))
theorem k_2 (w : World) : Calls Tryz.prog 18 #[.int .i64 2] w fun e w' => e = .returned (.agg #[.bool false, .int .i64 (1), .int .i64 (20000), .string (⟨#[]⟩), .bool false, .int .i64 0, .int .i64 0, .int .i64 0, .int .i64 0, .int .i64 0, .slice none 0 0]) ∧ Below w.heap.size w w' := lwhole 2 w (mod_s (by decide) (by decide))
theorem k_l3 (w : World) : Calls Tryz.prog 16 #[(.agg #[.bool false, .int .i64 (2), .int .i64 (0), .string (⟨#[97, 98, 99, 100]⟩), .bool false, .int .i64 0, .int .i64 0, .int .i64 0, .int .i64 0, .int .i64 0, .slice none 0 0]), (.agg #[.bool false, .int .i64 (1), .int .i64 (20000), .string (⟨#[]⟩), .bool false, .int .i64 0, .int .i64 0, .int .i64 0, .int .i64 0, .int .i64 0, .slice none 0 0]), (.agg #[.bool false, .int .i64 (1), .int .i64 (20000), .string (⟨#[]⟩), .bool false, .int .i64 0, .int .i64 0, .int .i64 0, .int .i64 0, .int .i64 0, .slice none 0 0]), .int .i64 3] w fun e w' => (∃ p n c, e = .returned (.slice p n c) ∧ AV w' (.slice p n c) [argT ⟨#[97, 98, 99, 100]⟩, argW 2, argW 2]) ∧ Below w.heap.size w w' :=
  (llist_3 2 0 ⟨#[97, 98, 99, 100]⟩ 1 20000 ⟨#[]⟩ 1 20000 ⟨#[]⟩ w).mono (fun e w' ⟨⟨p, c, h1, h2⟩, h3⟩ => ⟨⟨_, _, _, h1, h2⟩, h3⟩)
theorem k_l1 (w : World) : Calls Tryz.prog 16 #[(.agg #[.bool false, .int .i64 (2), .int .i64 (0), .string (⟨#[97, 98, 99]⟩), .bool false, .int .i64 0, .int .i64 0, .int .i64 0, .int .i64 0, .int .i64 0, .slice none 0 0]), (.agg #[.bool false, .int .i64 (2), .int .i64 (0), .string (⟨#[]⟩), .bool false, .int .i64 0, .int .i64 0, .int .i64 0, .int .i64 0, .int .i64 0, .slice none 0 0]), (.agg #[.bool false, .int .i64 (2), .int .i64 (0), .string (⟨#[]⟩), .bool false, .int .i64 0, .int .i64 0, .int .i64 0, .int .i64 0, .int .i64 0, .slice none 0 0]), .int .i64 1] w fun e w' => (∃ p n c, e = .returned (.slice p n c) ∧ AV w' (.slice p n c) [argT ⟨#[97, 98, 99]⟩]) ∧ Below w.heap.size w w' :=
  (llist_1 2 0 ⟨#[97, 98, 99]⟩ 2 0 ⟨#[]⟩ 2 0 ⟨#[]⟩ w).mono (fun e w' ⟨⟨p, c, h1, h2⟩, h3⟩ => ⟨⟨_, _, _, h1, h2⟩, h3⟩)
set_option maxRecDepth 100000 in
set_option maxHeartbeats 1000000 in
theorem known_law (w : World) (hP : Pow w) : Calls Tryz.prog 11 #[] w fun e w' => e = .returned (.bool true) ∧ Below w.heap.size w w' := by
  have mixed : Tryz.prog.follows .mixedOrders = true := by kernel_rfl
  have q2 := s_3
  have e2 := eqv (1) (30000) ⟨#[]⟩ false (0) (1) (30000) ⟨#[]⟩ false (0)
  rw [q2] at e2
  clear q2
  have hfl := fld 30000 ⟨#[]⟩ 1
  go_enter Tryz.func11, Tryz.ntmps11
  go_wp2_with (first | (go_at_call_has 17 (Value.string ⟨#[97, 98, 99, 100]⟩); refine (ltxt _ _).mono ?_; rintro e wa ⟨rfl, hbwa⟩; have hBwa : Below w.heap.size w wa := bup (by with_reducible (repeat' first | assumption | exact Below.refl _ _ | refine Below.drew ?_ | refine bdrewN ?_ _ | refine Below.setCell ?_ (by first | exact Nat.le_refl _ | (simp; done) | (simp; omega) | omega) _ | refine Below.alloc ?_ (by first | exact Nat.le_refl _ | (simp; done) | (simp; omega) | omega) _)) hbwa; have zwa := hBwa.size) | (go_at_call_has 18 (Value.int .i64 2); refine (k_2 _).mono ?_; rintro e wb ⟨rfl, hbwb⟩; have hBwb : Below w.heap.size w wb := bup (by with_reducible (repeat' first | assumption | exact Below.refl _ _ | refine Below.drew ?_ | refine bdrewN ?_ _ | refine Below.setCell ?_ (by first | exact Nat.le_refl _ | (simp; done) | (simp; omega) | omega) _ | refine Below.alloc ?_ (by first | exact Nat.le_refl _ | (simp; done) | (simp; omega) | omega) _)) hbwb; have zwb := hBwb.size) | (go_at_call_has 16 (Value.int .i64 3); refine (k_l3 _).mono ?_; rintro e wl ⟨⟨pl, nl, cl, rfl, hvl⟩, hbwl⟩; have hBwl : Below w.heap.size w wl := bup (by with_reducible (repeat' first | assumption | exact Below.refl _ _ | refine Below.drew ?_ | refine bdrewN ?_ _ | refine Below.setCell ?_ (by first | exact Nat.le_refl _ | (simp; done) | (simp; omega) | omega) _ | refine Below.alloc ?_ (by first | exact Nat.le_refl _ | (simp; done) | (simp; omega) | omega) _)) hbwl; have zwl := hBwl.size) | (go_at_call_has 9 (Value.string ⟨#[77, 73, 68]⟩); refine (k_mid _ _ hvl (hP.up hBwl)).mono ?_; rintro e wm ⟨rfl, hbwm⟩; have hBwm : Below w.heap.size w wm := bup (by with_reducible (repeat' first | assumption | exact Below.refl _ _ | refine Below.drew ?_ | refine bdrewN ?_ _ | refine Below.setCell ?_ (by first | exact Nat.le_refl _ | (simp; done) | (simp; omega) | omega) _ | refine Below.alloc ?_ (by first | exact Nat.le_refl _ | (simp; done) | (simp; omega) | omega) _)) hbwm; have zwm := hBwm.size) | (go_at_call_has 17 (Value.string ⟨#[97, 98, 99]⟩); refine (ltxt _ _).mono ?_; rintro e wc ⟨rfl, hbwc⟩; have hBwc : Below w.heap.size w wc := bup (by with_reducible (repeat' first | assumption | exact Below.refl _ _ | refine Below.drew ?_ | refine bdrewN ?_ _ | refine Below.setCell ?_ (by first | exact Nat.le_refl _ | (simp; done) | (simp; omega) | omega) _ | refine Below.alloc ?_ (by first | exact Nat.le_refl _ | (simp; done) | (simp; omega) | omega) _)) hbwc; have zwc := hBwc.size; have oawc : Own wc wm.heap.size #[.int .i64 2, .int .i64 0, .string ⟨#[98, 99]⟩, .bool false, .int .i64 0] := Own.keep (by with_reducible (repeat' first | assumption | refine Own.drew ?_ | refine Own.drewN ?_ _ | (refine Own.at ?_; first | rfl | (simp; done)) | refine Own.past ?_ _)) hbwc; have ca := oawc.cell; have fa := oawc.fro; have la := oawc.lt) | (go_at_call_has 17 (Value.string ⟨#[]⟩); refine (ltxt _ _).mono ?_; rintro e wd ⟨rfl, hbwd⟩; have hBwd : Below w.heap.size w wd := bup (by with_reducible (repeat' first | assumption | exact Below.refl _ _ | refine Below.drew ?_ | refine bdrewN ?_ _ | refine Below.setCell ?_ (by first | exact Nat.le_refl _ | (simp; done) | (simp; omega) | omega) _ | refine Below.alloc ?_ (by first | exact Nat.le_refl _ | (simp; done) | (simp; omega) | omega) _)) hbwd; have zwd := hBwd.size; have oawd : Own wd wm.heap.size #[.int .i64 2, .int .i64 0, .string ⟨#[98, 99]⟩, .bool false, .int .i64 0] := Own.keep (by with_reducible (repeat' first | assumption | refine Own.drew ?_ | refine Own.drewN ?_ _ | (refine Own.at ?_; first | rfl | (simp; done)) | refine Own.past ?_ _)) hbwd; have ca := oawd.cell; have fa := oawd.fro; have la := oawd.lt) | (go_at_call_has 16 (Value.int .i64 1); refine (k_l1 _).mono ?_; rintro e wk ⟨⟨pk, nk, ck, rfl, hvk⟩, hbwk⟩; have hBwk : Below w.heap.size w wk := bup (by with_reducible (repeat' first | assumption | exact Below.refl _ _ | refine Below.drew ?_ | refine bdrewN ?_ _ | refine Below.setCell ?_ (by first | exact Nat.le_refl _ | (simp; done) | (simp; omega) | omega) _ | refine Below.alloc ?_ (by first | exact Nat.le_refl _ | (simp; done) | (simp; omega) | omega) _)) hbwk; have zwk := hBwk.size; have oawk : Own wk wm.heap.size #[.int .i64 2, .int .i64 0, .string ⟨#[98, 99]⟩, .bool false, .int .i64 0] := Own.keep (by with_reducible (repeat' first | assumption | refine Own.drew ?_ | refine Own.drewN ?_ _ | (refine Own.at ?_; first | rfl | (simp; done)) | refine Own.past ?_ _)) hbwk; have ca := oawk.cell; have fa := oawk.fro; have la := oawk.lt) | (go_at_call_has 9 (Value.string ⟨#[76, 69, 78]⟩); refine (k_len _ _ hvk (hP.up hBwk)).mono ?_; rintro e wn ⟨rfl, hbwn⟩; have hBwn : Below w.heap.size w wn := bup (by with_reducible (repeat' first | assumption | exact Below.refl _ _ | refine Below.drew ?_ | refine bdrewN ?_ _ | refine Below.setCell ?_ (by first | exact Nat.le_refl _ | (simp; done) | (simp; omega) | omega) _ | refine Below.alloc ?_ (by first | exact Nat.le_refl _ | (simp; done) | (simp; omega) | omega) _)) hbwn; have zwn := hBwn.size; have oawn : Own wn wm.heap.size #[.int .i64 2, .int .i64 0, .string ⟨#[98, 99]⟩, .bool false, .int .i64 0] := Own.keep (by with_reducible (repeat' first | assumption | refine Own.drew ?_ | refine Own.drewN ?_ _ | (refine Own.at ?_; first | rfl | (simp; done)) | refine Own.past ?_ _)) hbwn; have ca := oawn.cell; have fa := oawn.fro; have la := oawn.lt))
  have ob : Own (wn.alloc (.cells #[.int .i64 1, .int .i64 30000, .string ⟨#[]⟩, .bool false, .int .i64 0] 26)) wn.heap.size #[.int .i64 1, .int .i64 30000, .string ⟨#[]⟩, .bool false, .int .i64 0] := by with_reducible (repeat' first | assumption | refine Own.drew ?_ | refine Own.drewN ?_ _ | (refine Own.at ?_; first | rfl | (simp; done)) | refine Own.past ?_ _)
  have oa : Own (wn.alloc (.cells #[.int .i64 1, .int .i64 30000, .string ⟨#[]⟩, .bool false, .int .i64 0] 26)) wm.heap.size #[.int .i64 2, .int .i64 0, .string ⟨#[98, 99]⟩, .bool false, .int .i64 0] := by with_reducible (repeat' first | assumption | refine Own.drew ?_ | refine Own.drewN ?_ _ | (refine Own.at ?_; first | rfl | (simp; done)) | refine Own.past ?_ _)
  have ca := oa.cell
  have cb := ob.cell
  go_region_held3 (fun w' => w'.cell? ⟨wm.heap.size, 0, none⟩ = some (.int .i64 2) ∧ w'.cell? ⟨wm.heap.size, 1, none⟩ = some (.int .i64 0) ∧ w'.cell? ⟨wm.heap.size, 2, none⟩ = some (.string ⟨#[98, 99]⟩) ∧ w'.cell? ⟨wm.heap.size, 3, none⟩ = some (.bool false) ∧ w'.cell? ⟨wm.heap.size, 4, none⟩ = some (.int .i64 0) ∧ w'.cell? ⟨wn.heap.size, 0, none⟩ = some (.int .i64 1) ∧ w'.cell? ⟨wn.heap.size, 1, none⟩ = some (.int .i64 30000) ∧ w'.cell? ⟨wn.heap.size, 2, none⟩ = some (.string ⟨#[]⟩) ∧ w'.cell? ⟨wn.heap.size, 3, none⟩ = some (.bool false) ∧ w'.cell? ⟨wn.heap.size, 4, none⟩ = some (.int .i64 0)) ((repeat' apply And.intro) <;> (first | (go_keep; done) | (go_simp; done))) ((first | (go_at_call 19; refine (k_is _).mono ?_; rintro e wi ⟨rfl, hbwi⟩; have hBwi : Below w.heap.size w wi := bup (by with_reducible (repeat' first | assumption | exact Below.refl _ _ | refine Below.drew ?_ | refine bdrewN ?_ _ | refine Below.setCell ?_ (by first | exact Nat.le_refl _ | (simp; done) | (simp; omega) | omega) _ | refine Below.alloc ?_ (by first | exact Nat.le_refl _ | (simp; done) | (simp; omega) | omega) _)) hbwi; have zwi := hBwi.size; have oawi : Own wi wm.heap.size #[.int .i64 2, .int .i64 0, .string ⟨#[98, 99]⟩, .bool false, .int .i64 0] := Own.keep (by with_reducible (repeat' first | assumption | refine Own.drew ?_ | refine Own.drewN ?_ _ | (refine Own.at ?_; first | rfl | (simp; done)) | refine Own.past ?_ _)) hbwi; have ca := oawi.cell; have fa := oawi.fro; have la := oawi.lt; have obwi : Own wi wn.heap.size #[.int .i64 1, .int .i64 30000, .string ⟨#[]⟩, .bool false, .int .i64 0] := Own.keep (by with_reducible (repeat' first | assumption | refine Own.drew ?_ | refine Own.drewN ?_ _ | (refine Own.at ?_; first | rfl | (simp; done)) | refine Own.past ?_ _)) hbwi; have cb := obwi.cell; have fb := obwi.fro; have lb := obwi.lt) | (go_at_call 18; refine (k_3 _).mono ?_; rintro e wj ⟨rfl, hbwj⟩; have hBwj : Below w.heap.size w wj := bup (by with_reducible (repeat' first | assumption | exact Below.refl _ _ | refine Below.drew ?_ | refine bdrewN ?_ _ | refine Below.setCell ?_ (by first | exact Nat.le_refl _ | (simp; done) | (simp; omega) | omega) _ | refine Below.alloc ?_ (by first | exact Nat.le_refl _ | (simp; done) | (simp; omega) | omega) _)) hbwj; have zwj := hBwj.size; have oawj : Own wj wm.heap.size #[.int .i64 2, .int .i64 0, .string ⟨#[98, 99]⟩, .bool false, .int .i64 0] := Own.keep (by with_reducible (repeat' first | assumption | refine Own.drew ?_ | refine Own.drewN ?_ _ | (refine Own.at ?_; first | rfl | (simp; done)) | refine Own.past ?_ _)) hbwj; have ca := oawj.cell; have fa := oawj.fro; have la := oawj.lt; have obwj : Own wj wn.heap.size #[.int .i64 1, .int .i64 30000, .string ⟨#[]⟩, .bool false, .int .i64 0] := Own.keep (by with_reducible (repeat' first | assumption | refine Own.drew ?_ | refine Own.drewN ?_ _ | (refine Own.at ?_; first | rfl | (simp; done)) | refine Own.past ?_ _)) hbwj; have cb := obwj.cell; have fb := obwj.fro; have lb := obwj.lt) | (go_at_call_has 12 (Value.string ⟨#[82, 69, 86]⟩); refine (known_any _ _).mono ?_; rintro e w5 ⟨rfl, e5⟩; rw [nm_rev, e5]; clear e5) | (go_at_call_has 12 (Value.string ⟨#[65, 66, 83]⟩); refine (known_any _ _).mono ?_; rintro e w5 ⟨rfl, e5⟩; rw [nm_abs, e5]; clear e5)))
  go_wp2
  go_ret
  exact ⟨rfl, by with_reducible (repeat' first | assumption | exact Below.refl _ _ | refine Below.drew ?_ | refine bdrewN ?_ _ | refine Below.setCell ?_ (by first | exact Nat.le_refl _ | (simp; done) | (simp; omega) | omega) _ | refine Below.alloc ?_ (by first | exact Nat.le_refl _ | (simp; done) | (simp; omega) | omega) _)⟩
end Go.Proofs.YtdcfnfapdceenaaGreatDoor
