/- The walk of the law AggsCounts: of every argument that may be. New memory alone is made. How an argument, and a list of arguments, each with its entries, comes in, and its bulk. -/
import Derived.Test.YtcgcnpcimfaecaaGreatDoorQGX3
import Derived.Test.YtcgcnpcimfaecaaGreatDoorQGA2
import Derived.Test.YtcgcnpcimfaecaaGreatDoorQGK2
import Derived.Test.YtcgcnpcimfaecaaGreatDoorQGTw
import Derived.Test.YtcgcnpcimfaecaaGreatDoorRows
import Derived.ProofKit
import Derived.OpenShut
import Derived.ShutString
import Derived.Deep.Slices
import Derived.Deep.DeepHandedRow
import Derived.SizedLaws
import Derived.WideKeyArgs
namespace Go.Proofs.YtcgcnpcimfaecaaGreatDoor
open Go.RowKit
set_option linter.all false
theorem av_own {W : World} {g : Nat} {a : Ag} {A : Array Value} (h : Own W g A) (hA : A = a.cells) : AV W (.slice (some ⟨g, 0, none⟩) 1 1) [a] := by
  subst hA
  refine ⟨_, _, rfl, Nat.le_refl _, fun _ => ⟨g, 0, rfl, h.lt, fun i x hi j hj => ?_⟩⟩
  have h0 : i = 0 := by have := (List.getElem?_eq_some_iff.1 hi).1; simp at this; omega
  subst h0
  simp at hi
  subst hi
  rw [Nat.zero_mul, Nat.zero_add, h.cell j]
set_option maxRecDepth 100000 in
theorem counts_f (t n : Int) (s : ByteArray) (b : Bool) (c r0 r1 r2 r3 : Int) (ep : Option Addr) (en ec : Nat) (es : List En) (w : World) : Calls Tryz.prog 7 #[.agg #[.bool false, .int .i64 t, .int .i64 n, .string s, .bool b, .int .i64 c, .int .i64 r0, .int .i64 r1, .int .i64 r2, .int .i64 r3, .slice ep en ec]] w fun e w' => e = .returned (.bool true) ∧ Below w.heap.size w w' := by
  go_enter Tryz.func7, Tryz.ntmps7
  go_wp2_with (go_at_call 11; refine (known_law _).mono ?_; rintro e wk ⟨rfl, hbwk⟩; have hBwk : Below w.heap.size w wk := bup (by with_reducible (repeat' first | assumption | exact Below.refl _ _ | refine Below.drew ?_ | refine bdrewN ?_ _ | refine Below.setCell ?_ (by first | exact Nat.le_refl _ | (simp; done) | (simp; omega) | omega) _ | refine Below.alloc ?_ (by first | exact Nat.le_refl _ | (simp; done) | (simp; omega) | omega) _)) hbwk; have zwk := hBwk.size; have o0wk : Own wk (w.heap.size) #[.bool false, .int .i64 t, .int .i64 n, .string s, .bool b, .int .i64 c, .int .i64 r0, .int .i64 r1, .int .i64 r2, .int .i64 r3, .slice ep en ec] := Own.keep (by with_reducible (repeat' first | assumption | refine Own.drew ?_ | refine Own.drewN ?_ _ | (refine Own.at ?_; first | rfl | (simp; done)) | refine Own.past ?_ _)) hbwk; have c0 := o0wk.cell; have f0 := o0wk.fro; have l0 := o0wk.lt)
  go_ret
  exact ⟨rfl, by with_reducible (repeat' first | assumption | exact Below.refl _ _ | refine Below.drew ?_ | refine bdrewN ?_ _ | refine Below.setCell ?_ (by first | exact Nat.le_refl _ | (simp; done) | (simp; omega) | omega) _ | refine Below.alloc ?_ (by first | exact Nat.le_refl _ | (simp; done) | (simp; omega) | omega) _)⟩
set_option maxRecDepth 100000 in
theorem counts_no (t n : Int) (s : ByteArray) (b : Bool) (c r0 r1 r2 r3 : Int) (ep : Option Addr) (en ec : Nat) (es : List En) (w : World) (hV : Hid (View En.cells 7 w (.slice ep en ec) es)) (hN : Hid (∀ x ∈ es, I64 x.n)) (hl : es.length ≤ 9223372036854775807) (hm : mnB ((⟨true, t, n, s, b, c, r0, r1, r2, r3, ep, en, ec⟩ : Ag), es) = true) : Calls Tryz.prog 7 #[.agg #[.bool true, .int .i64 t, .int .i64 n, .string s, .bool b, .int .i64 c, .int .i64 r0, .int .i64 r1, .int .i64 r2, .int .i64 r3, .slice ep en ec]] w fun e w' => e = .returned (.bool true) ∧ Below w.heap.size w w' := by
  have ha := fun W (hb : Below w.heap.size w W) => darg_m (⟨true, t, n, s, b, c, r0, r1, r2, r3, ep, en, ec⟩ : Ag) es W rfl (View.keep hV.out hb) hN hl
  rw [hm] at ha
  go_enter Tryz.func7, Tryz.ntmps7
  go_wp2_with (first | (go_at_call 11; refine (known_law _).mono ?_; rintro e wk ⟨rfl, hbwk⟩; have hBwk : Below w.heap.size w wk := bup (by with_reducible (repeat' first | assumption | exact Below.refl _ _ | refine Below.drew ?_ | refine bdrewN ?_ _ | refine Below.setCell ?_ (by first | exact Nat.le_refl _ | (simp; done) | (simp; omega) | omega) _ | refine Below.alloc ?_ (by first | exact Nat.le_refl _ | (simp; done) | (simp; omega) | omega) _)) hbwk; have zwk := hBwk.size; have o0wk : Own wk (w.heap.size) #[.bool true, .int .i64 t, .int .i64 n, .string s, .bool b, .int .i64 c, .int .i64 r0, .int .i64 r1, .int .i64 r2, .int .i64 r3, .slice ep en ec] := Own.keep (by with_reducible (repeat' first | assumption | refine Own.drew ?_ | refine Own.drewN ?_ _ | (refine Own.at ?_; first | rfl | (simp; done)) | refine Own.past ?_ _)) hbwk; have c0 := o0wk.cell; have f0 := o0wk.fro; have l0 := o0wk.lt) | (go_at_call 21; refine (ha _ (by with_reducible (repeat' first | assumption | exact Below.refl _ _ | refine Below.drew ?_ | refine bdrewN ?_ _ | refine Below.setCell ?_ (by first | exact Nat.le_refl _ | (simp; done) | (simp; omega) | omega) _ | refine Below.alloc ?_ (by first | exact Nat.le_refl _ | (simp; done) | (simp; omega) | omega) _))).mono ?_; rintro e wb ⟨rfl, hbwb⟩; have hBwb : Below w.heap.size w wb := bup (by with_reducible (repeat' first | assumption | exact Below.refl _ _ | refine Below.drew ?_ | refine bdrewN ?_ _ | refine Below.setCell ?_ (by first | exact Nat.le_refl _ | (simp; done) | (simp; omega) | omega) _ | refine Below.alloc ?_ (by first | exact Nat.le_refl _ | (simp; done) | (simp; omega) | omega) _)) hbwb; have zwb := hBwb.size; have o0wb : Own wb (w.heap.size) #[.bool true, .int .i64 t, .int .i64 n, .string s, .bool b, .int .i64 c, .int .i64 r0, .int .i64 r1, .int .i64 r2, .int .i64 r3, .slice ep en ec] := Own.keep (by with_reducible (repeat' first | assumption | refine Own.drew ?_ | refine Own.drewN ?_ _ | (refine Own.at ?_; first | rfl | (simp; done)) | refine Own.past ?_ _)) hbwb; have c0 := o0wb.cell; have f0 := o0wb.fro; have l0 := o0wb.lt))
  go_ret
  exact ⟨rfl, by with_reducible (repeat' first | assumption | exact Below.refl _ _ | refine Below.drew ?_ | refine bdrewN ?_ _ | refine Below.setCell ?_ (by first | exact Nat.le_refl _ | (simp; done) | (simp; omega) | omega) _ | refine Below.alloc ?_ (by first | exact Nat.le_refl _ | (simp; done) | (simp; omega) | omega) _)⟩
set_option maxRecDepth 100000 in
set_option maxHeartbeats 4000000 in
theorem counts_ok (t n : Int) (s : ByteArray) (b : Bool) (c r0 r1 r2 r3 : Int) (ep : Option Addr) (en ec : Nat) (es : List En) (w : World) (hE : Hid (AgE w ((⟨true, t, n, s, b, c, r0, r1, r2, r3, ep, en, ec⟩ : Ag), es))) (hn : es.length = en) (hm : mnB ((⟨true, t, n, s, b, c, r0, r1, r2, r3, ep, en, ec⟩ : Ag), es) = false) : Calls Tryz.prog 7 #[.agg #[.bool true, .int .i64 t, .int .i64 n, .string s, .bool b, .int .i64 c, .int .i64 r0, .int .i64 r1, .int .i64 r2, .int .i64 r3, .slice ep en ec]] w fun e w' => e = .returned (.bool true) ∧ Below w.heap.size w w' := by
  have mixed : Tryz.prog.follows .mixedOrders = true := by kernel_rfl
  have ha := fun W (hb : Below w.heap.size w W) => darg_m (⟨true, t, n, s, b, c, r0, r1, r2, r3, ep, en, ec⟩ : Ag) es W rfl (View.keep hE.out.vw hb) hE.out.en (by have := hE.out.few; simp only at this; omega)
  rw [hm] at ha
  have hmn : Hid _ := hm
  have hp : vz5 t n s b c = true ∧ Ad.mayR r0 r1 r2 r3 = true ∧ entsB r0 r1 r2 r3 es = true := by
    simp only [mnB, if_true] at hm
    cases q1 : vz5 t n s b c
    · rw [q1] at hm; cases hm
    cases q2 : Ad.mayR r0 r1 r2 r3
    · rw [q1, q2] at hm; cases hm
    cases q3 : entsB r0 r1 r2 r3 es
    · rw [q1, q2, q3] at hm; cases hm
    exact ⟨rfl, rfl, rfl⟩
  obtain ⟨_, hr, hes⟩ := hp
  have hri := Ad.mayR_is hr
  have h1 : 0 ≤ r0 := by omega
  have h2 : r0 ≤ r2 := by omega
  have h3 : r2 ≤ 1048576 := by omega
  have h4 : 0 ≤ r1 := by omega
  have h5 : r1 ≤ r3 := by omega
  have h6 : r3 ≤ 1048576 := by omega
  have hfit : Hid _ := ents_fit hes h2 h5
  have ha1 : ((r2 - r0 + 1) * (r3 - r1 + 1)) ≤ 4096 * 256 := Int.mul_le_mul (by omega) (by omega) (by omega) (by omega)
  have ha0 : 0 ≤ ((r2 - r0 + 1) * (r3 - r1 + 1)) := Int.mul_nonneg (by omega) (by omega)
  have h40 : Hid (((r2 - r0 + 1) * (r3 - r1 + 1)) ≤ 549755813888) := (show ((r2 - r0 + 1) * (r3 - r1 + 1)) ≤ 549755813888 from by omega)
  have hmay : ∀ x ∈ es, mayB x.t x.n x.s x.b x.c = true := fun x hx => by
    obtain ⟨j, hj⟩ := List.getElem?_of_mem hx
    exact (ent_parts ((ents_all r0 r1 r2 r3 es).1 hes j x hj)).2
  have hcf := cw_fil hmay
  have hit : itms [((⟨true, t, n, s, b, c, r0, r1, r2, r3, ep, en, ec⟩ : Ag), es)] = es.map itE := by simp [itms, itP]
  have hnf := nums_fil (itms [((⟨true, t, n, s, b, c, r0, r1, r2, r3, ep, en, ec⟩ : Ag), es)])
  obtain ⟨vB, hvBe⟩ : ∃ v : Int, ((((r2 - r0 + 1) * (r3 - r1 + 1)) - (es.length : Int) + cwI 0 0 ⟨#[]⟩ false 0 es) * 10000) = v := ⟨_, rfl⟩
  obtain ⟨vA, hvAe⟩ : ∃ v : Int, ((filI (itms [((⟨true, t, n, s, b, c, r0, r1, r2, r3, ep, en, ec⟩ : Ag), es)]) : Int) * 10000) = v := ⟨_, rfl⟩
  obtain ⟨vC, hvCe⟩ : ∃ v : Int, (((numsI (itms [((⟨true, t, n, s, b, c, r0, r1, r2, r3, ep, en, ec⟩ : Ag), es)])).length : Int) * 10000) = v := ⟨_, rfl⟩
  obtain ⟨vR, hvRe⟩ : ∃ v : Int, ((r2 - r0 + 1) * 10000) = v := ⟨_, rfl⟩
  obtain ⟨vK, hvKe⟩ : ∃ v : Int, ((r3 - r1 + 1) * 10000) = v := ⟨_, rfl⟩
  have hvB : Hid (∀ (W : World) (g : Value), AV W g [(⟨true, t, n, s, b, c, r0, r1, r2, r3, ep, en, ec⟩ : Ag)] → Below w.heap.size w W → Calls Tryz.prog 9 #[.string ⟨#[66, 76, 65, 78, 75, 83]⟩, g, .int .i64 0] W fun e w' => e = .returned (.agg #[.int .i64 (1), .int .i64 (vB), .string ⟨#[]⟩, .bool false, .int .i64 (0)]) ∧ Below W.heap.size W w') := (show _ from fun W g hg hb => hvBe ▸ blanks_call W g t n s b c r0 r1 r2 r3 ep en ec es hg (hE.out.keep hb) hmn.out h1 h2 h3 h4 h5 h6 hfit.out h40.out)
  have hvA : Hid (∀ (W : World) (g : Value), AV W g [(⟨true, t, n, s, b, c, r0, r1, r2, r3, ep, en, ec⟩ : Ag)] → Below w.heap.size w W → Calls Tryz.prog 9 #[.string ⟨#[67, 79, 85, 78, 84, 65]⟩, g, .int .i64 0] W fun e w' => e = .returned (.agg #[.int .i64 (1), .int .i64 (vA), .string ⟨#[]⟩, .bool false, .int .i64 (0)]) ∧ Below W.heap.size W w') := (show _ from fun W g hg hb => hvAe ▸ counta_call W g t n s b c r0 r1 r2 r3 ep en ec es hg (hE.out.keep hb) hmn.out)
  have hvC : Hid (∀ (W : World) (g : Value), AV W g [(⟨true, t, n, s, b, c, r0, r1, r2, r3, ep, en, ec⟩ : Ag)] → Below w.heap.size w W → Calls Tryz.prog 9 #[.string ⟨#[67, 79, 85, 78, 84]⟩, g, .int .i64 0] W fun e w' => e = .returned (.agg #[.int .i64 (1), .int .i64 (vC), .string ⟨#[]⟩, .bool false, .int .i64 (0)]) ∧ Below W.heap.size W w') := (show _ from fun W g hg hb => hvCe ▸ count_call W g t n s b c r0 r1 r2 r3 ep en ec es hg (hE.out.keep hb) hmn.out)
  have hvR : Hid (∀ (W : World) (g : Value), AV W g [(⟨true, t, n, s, b, c, r0, r1, r2, r3, ep, en, ec⟩ : Ag)] → Below w.heap.size w W → Calls Tryz.prog 9 #[.string ⟨#[82, 79, 87, 83]⟩, g, .int .i64 0] W fun e w' => e = .returned (.agg #[.int .i64 (1), .int .i64 (vR), .string ⟨#[]⟩, .bool false, .int .i64 (0)]) ∧ Below W.heap.size W w') := (show _ from fun W g hg hb => hvRe ▸ rows_call W g t n s b c r0 r1 r2 r3 ep en ec es hg (hE.out.keep hb) hmn.out h1 h2 h3 h4 h5 h6)
  have hvK : Hid (∀ (W : World) (g : Value), AV W g [(⟨true, t, n, s, b, c, r0, r1, r2, r3, ep, en, ec⟩ : Ag)] → Below w.heap.size w W → Calls Tryz.prog 9 #[.string ⟨#[67, 79, 76, 83]⟩, g, .int .i64 0] W fun e w' => e = .returned (.agg #[.int .i64 (1), .int .i64 (vK), .string ⟨#[]⟩, .bool false, .int .i64 (0)]) ∧ Below W.heap.size W w') := (show _ from fun W g hg hb => hvKe ▸ cols_call W g t n s b c r0 r1 r2 r3 ep en ec es hg (hE.out.keep hb) hmn.out h1 h2 h3 h4 h5 h6)
  have hvI : Hid (∀ (W : World) (g : Value), AV W g [(⟨true, t, n, s, b, c, r0, r1, r2, r3, ep, en, ec⟩ : Ag), sgB] → Below w.heap.size w W → Calls Tryz.prog 9 #[.string ⟨#[67, 79, 85, 78, 84, 73, 70]⟩, g, .int .i64 0] W fun e w' => e = .returned (.agg #[.int .i64 (1), .int .i64 (vB), .string ⟨#[]⟩, .bool false, .int .i64 (0)]) ∧ Below W.heap.size W w') := (show _ from fun W g hg hb => hvBe ▸ countif_call W g t n s b c r0 r1 r2 r3 ep en ec es hg (hE.out.keep hb) hmn.out h1 h2 h3 h4 h5 h6 hfit.out h40.out)
  have g1 : ¬ vA < vC := by omega
  have g2 : ¬ (en : Int) * 10000 < vA := by rw [← hn, ← hcf, ← hit]; omega
  have g3 : vB + vA = ((r2 - r0 + 1) * (r3 - r1 + 1)) * 10000 := by rw [← hvBe, ← hvAe, ← hcf, hit]; omega
  have hfo := hfit.out
  obtain ⟨kk, hkk⟩ : ∃ kk : Int, r3 - r1 + 1 = kk := ⟨_, rfl⟩
  obtain ⟨mm, hmm⟩ : ∃ mm : Int, ((r2 - r0 + 1) * (r3 - r1 + 1)) * 10000 = mm := ⟨_, rfl⟩
  have g5 : vK.tdiv 10000 = kk := by rw [← hvKe, hkk, Int.mul_tdiv_cancel _ (by decide)]
  have g6 : vR * kk = mm := by rw [← hmm, ← hvRe, ← hkk, Int.mul_assoc, Int.mul_comm 10000, ← Int.mul_assoc]
  have g7 : wrap64 mm = mm := by unfold wrap64; omega
  have g8 : IntKind.i64.wrap mm = mm := by rw [IntKind.wrap_i64]; unfold wrap64 at g7; exact g7
  have g9 : wrap64 ((en : Int) * 10000) = (en : Int) * 10000 := by unfold wrap64; omega
  have g10 : vB + vA = mm := by rw [g3, hmm]
  have g11 : wrap64 kk = kk := by unfold wrap64; omega
  have g12 : IntKind.i64.wrap kk = kk := by rw [IntKind.wrap_i64]; unfold wrap64 at g11; exact g11
  clear hkk hmm
  have gc : Hid (AgE w ((⟨true, t, n, s, b, c, r0, r1, r2, r3, ep, en, ec⟩ : Ag), es)) := hE
  clear hcf hnf hit hvBe hvAe hvCe hvRe hvKe ha1 ha0 hfo g3 hri hmay hes hr
  have t0 : True := trivial
  have t1 : True := trivial
  have t2 : True := trivial
  have t3 : True := trivial
  have t4 : True := trivial
  go_enter Tryz.func7, Tryz.ntmps7
  go_wp2_with (first | (go_at_call 11; refine (known_law _).mono ?_; rintro e wk ⟨rfl, hbwk⟩; have hBwk : Below w.heap.size w wk := bup (by with_reducible (repeat' first | assumption | exact Below.refl _ _ | refine Below.drew ?_ | refine bdrewN ?_ _ | refine Below.setCell ?_ (by first | exact Nat.le_refl _ | (simp; done) | (simp; omega) | omega) _ | refine Below.alloc ?_ (by first | exact Nat.le_refl _ | (simp; done) | (simp; omega) | omega) _)) hbwk; have zwk := hBwk.size; have o0wk : Own wk (w.heap.size) #[.bool true, .int .i64 t, .int .i64 n, .string s, .bool b, .int .i64 c, .int .i64 r0, .int .i64 r1, .int .i64 r2, .int .i64 r3, .slice ep en ec] := Own.keep (by with_reducible (repeat' first | assumption | refine Own.drew ?_ | refine Own.drewN ?_ _ | (refine Own.at ?_; first | rfl | (simp; done)) | refine Own.past ?_ _)) hbwk; have c0 := o0wk.cell; have f0 := o0wk.fro; have l0 := o0wk.lt) | (go_at_call 21; refine (ha _ (by with_reducible (repeat' first | assumption | exact Below.refl _ _ | refine Below.drew ?_ | refine bdrewN ?_ _ | refine Below.setCell ?_ (by first | exact Nat.le_refl _ | (simp; done) | (simp; omega) | omega) _ | refine Below.alloc ?_ (by first | exact Nat.le_refl _ | (simp; done) | (simp; omega) | omega) _))).mono ?_; rintro e wb ⟨rfl, hbwb⟩; have hBwb : Below w.heap.size w wb := bup (by with_reducible (repeat' first | assumption | exact Below.refl _ _ | refine Below.drew ?_ | refine bdrewN ?_ _ | refine Below.setCell ?_ (by first | exact Nat.le_refl _ | (simp; done) | (simp; omega) | omega) _ | refine Below.alloc ?_ (by first | exact Nat.le_refl _ | (simp; done) | (simp; omega) | omega) _)) hbwb; have zwb := hBwb.size; have o0wb : Own wb (w.heap.size) #[.bool true, .int .i64 t, .int .i64 n, .string s, .bool b, .int .i64 c, .int .i64 r0, .int .i64 r1, .int .i64 r2, .int .i64 r3, .slice ep en ec] := Own.keep (by with_reducible (repeat' first | assumption | refine Own.drew ?_ | refine Own.drewN ?_ _ | (refine Own.at ?_; first | rfl | (simp; done)) | refine Own.past ?_ _)) hbwb; have c0 := o0wb.cell; have f0 := o0wb.fro; have l0 := o0wb.lt) | (go_at_call 9; clear t0; refine (hvB.out _ _ (av_own (a := (⟨true, t, n, s, b, c, r0, r1, r2, r3, ep, en, ec⟩ : Ag)) (g := wb.heap.size) (A := #[.bool true, .int .i64 t, .int .i64 n, .string s, .bool b, .int .i64 c, .int .i64 r0, .int .i64 r1, .int .i64 r2, .int .i64 r3, .slice ep en ec]) (by with_reducible (repeat' first | assumption | refine Own.drew ?_ | refine Own.drewN ?_ _ | (refine Own.at ?_; first | rfl | (simp; done)) | refine Own.past ?_ _)) rfl) (by with_reducible (repeat' first | assumption | exact Below.refl _ _ | refine Below.drew ?_ | refine bdrewN ?_ _ | refine Below.setCell ?_ (by first | exact Nat.le_refl _ | (simp; done) | (simp; omega) | omega) _ | refine Below.alloc ?_ (by first | exact Nat.le_refl _ | (simp; done) | (simp; omega) | omega) _))).mono ?_; rintro e w1 ⟨rfl, hbw1⟩; have hBw1 : Below w.heap.size w w1 := bup (by with_reducible (repeat' first | assumption | exact Below.refl _ _ | refine Below.drew ?_ | refine bdrewN ?_ _ | refine Below.setCell ?_ (by first | exact Nat.le_refl _ | (simp; done) | (simp; omega) | omega) _ | refine Below.alloc ?_ (by first | exact Nat.le_refl _ | (simp; done) | (simp; omega) | omega) _)) hbw1; have zw1 := hBw1.size; have o0w1 : Own w1 (w.heap.size) #[.bool true, .int .i64 t, .int .i64 n, .string s, .bool b, .int .i64 c, .int .i64 r0, .int .i64 r1, .int .i64 r2, .int .i64 r3, .slice ep en ec] := Own.keep (by with_reducible (repeat' first | assumption | refine Own.drew ?_ | refine Own.drewN ?_ _ | (refine Own.at ?_; first | rfl | (simp; done)) | refine Own.past ?_ _)) hbw1; have c0 := o0w1.cell; have f0 := o0w1.fro; have l0 := o0w1.lt; have o1w1 : Own w1 (wb.heap.size) #[.bool true, .int .i64 t, .int .i64 n, .string s, .bool b, .int .i64 c, .int .i64 r0, .int .i64 r1, .int .i64 r2, .int .i64 r3, .slice ep en ec] := Own.keep (by with_reducible (repeat' first | assumption | refine Own.drew ?_ | refine Own.drewN ?_ _ | (refine Own.at ?_; first | rfl | (simp; done)) | refine Own.past ?_ _)) hbw1; have c1 := o1w1.cell; have f1 := o1w1.fro; have l1 := o1w1.lt) | (go_at_call 9; clear t1; refine (hvA.out _ _ (av_own (a := (⟨true, t, n, s, b, c, r0, r1, r2, r3, ep, en, ec⟩ : Ag)) (g := wb.heap.size) (A := #[.bool true, .int .i64 t, .int .i64 n, .string s, .bool b, .int .i64 c, .int .i64 r0, .int .i64 r1, .int .i64 r2, .int .i64 r3, .slice ep en ec]) (by with_reducible (repeat' first | assumption | refine Own.drew ?_ | refine Own.drewN ?_ _ | (refine Own.at ?_; first | rfl | (simp; done)) | refine Own.past ?_ _)) rfl) (by with_reducible (repeat' first | assumption | exact Below.refl _ _ | refine Below.drew ?_ | refine bdrewN ?_ _ | refine Below.setCell ?_ (by first | exact Nat.le_refl _ | (simp; done) | (simp; omega) | omega) _ | refine Below.alloc ?_ (by first | exact Nat.le_refl _ | (simp; done) | (simp; omega) | omega) _))).mono ?_; rintro e w2 ⟨rfl, hbw2⟩; have hBw2 : Below w.heap.size w w2 := bup (by with_reducible (repeat' first | assumption | exact Below.refl _ _ | refine Below.drew ?_ | refine bdrewN ?_ _ | refine Below.setCell ?_ (by first | exact Nat.le_refl _ | (simp; done) | (simp; omega) | omega) _ | refine Below.alloc ?_ (by first | exact Nat.le_refl _ | (simp; done) | (simp; omega) | omega) _)) hbw2; have zw2 := hBw2.size; have o0w2 : Own w2 (w.heap.size) #[.bool true, .int .i64 t, .int .i64 n, .string s, .bool b, .int .i64 c, .int .i64 r0, .int .i64 r1, .int .i64 r2, .int .i64 r3, .slice ep en ec] := Own.keep (by with_reducible (repeat' first | assumption | refine Own.drew ?_ | refine Own.drewN ?_ _ | (refine Own.at ?_; first | rfl | (simp; done)) | refine Own.past ?_ _)) hbw2; have c0 := o0w2.cell; have f0 := o0w2.fro; have l0 := o0w2.lt; have o1w2 : Own w2 (wb.heap.size) #[.bool true, .int .i64 t, .int .i64 n, .string s, .bool b, .int .i64 c, .int .i64 r0, .int .i64 r1, .int .i64 r2, .int .i64 r3, .slice ep en ec] := Own.keep (by with_reducible (repeat' first | assumption | refine Own.drew ?_ | refine Own.drewN ?_ _ | (refine Own.at ?_; first | rfl | (simp; done)) | refine Own.past ?_ _)) hbw2; have c1 := o1w2.cell; have f1 := o1w2.fro; have l1 := o1w2.lt; have o2w2 : Own w2 (w1.heap.size) #[.int .i64 (1), .int .i64 (vB), .string ⟨#[]⟩, .bool false, .int .i64 (0)] := Own.keep (by with_reducible (repeat' first | assumption | refine Own.drew ?_ | refine Own.drewN ?_ _ | (refine Own.at ?_; first | rfl | (simp; done)) | refine Own.past ?_ _)) hbw2; have c2 := o2w2.cell; have f2 := o2w2.fro; have l2 := o2w2.lt) | (go_at_call 9; clear t2; refine (hvC.out _ _ (av_own (a := (⟨true, t, n, s, b, c, r0, r1, r2, r3, ep, en, ec⟩ : Ag)) (g := wb.heap.size) (A := #[.bool true, .int .i64 t, .int .i64 n, .string s, .bool b, .int .i64 c, .int .i64 r0, .int .i64 r1, .int .i64 r2, .int .i64 r3, .slice ep en ec]) (by with_reducible (repeat' first | assumption | refine Own.drew ?_ | refine Own.drewN ?_ _ | (refine Own.at ?_; first | rfl | (simp; done)) | refine Own.past ?_ _)) rfl) (by with_reducible (repeat' first | assumption | exact Below.refl _ _ | refine Below.drew ?_ | refine bdrewN ?_ _ | refine Below.setCell ?_ (by first | exact Nat.le_refl _ | (simp; done) | (simp; omega) | omega) _ | refine Below.alloc ?_ (by first | exact Nat.le_refl _ | (simp; done) | (simp; omega) | omega) _))).mono ?_; rintro e w3 ⟨rfl, hbw3⟩; have hBw3 : Below w.heap.size w w3 := bup (by with_reducible (repeat' first | assumption | exact Below.refl _ _ | refine Below.drew ?_ | refine bdrewN ?_ _ | refine Below.setCell ?_ (by first | exact Nat.le_refl _ | (simp; done) | (simp; omega) | omega) _ | refine Below.alloc ?_ (by first | exact Nat.le_refl _ | (simp; done) | (simp; omega) | omega) _)) hbw3; have zw3 := hBw3.size; have o0w3 : Own w3 (w.heap.size) #[.bool true, .int .i64 t, .int .i64 n, .string s, .bool b, .int .i64 c, .int .i64 r0, .int .i64 r1, .int .i64 r2, .int .i64 r3, .slice ep en ec] := Own.keep (by with_reducible (repeat' first | assumption | refine Own.drew ?_ | refine Own.drewN ?_ _ | (refine Own.at ?_; first | rfl | (simp; done)) | refine Own.past ?_ _)) hbw3; have c0 := o0w3.cell; have f0 := o0w3.fro; have l0 := o0w3.lt; have o1w3 : Own w3 (wb.heap.size) #[.bool true, .int .i64 t, .int .i64 n, .string s, .bool b, .int .i64 c, .int .i64 r0, .int .i64 r1, .int .i64 r2, .int .i64 r3, .slice ep en ec] := Own.keep (by with_reducible (repeat' first | assumption | refine Own.drew ?_ | refine Own.drewN ?_ _ | (refine Own.at ?_; first | rfl | (simp; done)) | refine Own.past ?_ _)) hbw3; have c1 := o1w3.cell; have f1 := o1w3.fro; have l1 := o1w3.lt; have o2w3 : Own w3 (w1.heap.size) #[.int .i64 (1), .int .i64 (vB), .string ⟨#[]⟩, .bool false, .int .i64 (0)] := Own.keep (by with_reducible (repeat' first | assumption | refine Own.drew ?_ | refine Own.drewN ?_ _ | (refine Own.at ?_; first | rfl | (simp; done)) | refine Own.past ?_ _)) hbw3; have c2 := o2w3.cell; have f2 := o2w3.fro; have l2 := o2w3.lt; have o3w3 : Own w3 (w2.heap.size) #[.int .i64 (1), .int .i64 (vA), .string ⟨#[]⟩, .bool false, .int .i64 (0)] := Own.keep (by with_reducible (repeat' first | assumption | refine Own.drew ?_ | refine Own.drewN ?_ _ | (refine Own.at ?_; first | rfl | (simp; done)) | refine Own.past ?_ _)) hbw3; have c3 := o3w3.cell; have f3 := o3w3.fro; have l3 := o3w3.lt) | (go_at_call 9; clear t3; refine (hvR.out _ _ (av_own (a := (⟨true, t, n, s, b, c, r0, r1, r2, r3, ep, en, ec⟩ : Ag)) (g := wb.heap.size) (A := #[.bool true, .int .i64 t, .int .i64 n, .string s, .bool b, .int .i64 c, .int .i64 r0, .int .i64 r1, .int .i64 r2, .int .i64 r3, .slice ep en ec]) (by with_reducible (repeat' first | assumption | refine Own.drew ?_ | refine Own.drewN ?_ _ | (refine Own.at ?_; first | rfl | (simp; done)) | refine Own.past ?_ _)) rfl) (by with_reducible (repeat' first | assumption | exact Below.refl _ _ | refine Below.drew ?_ | refine bdrewN ?_ _ | refine Below.setCell ?_ (by first | exact Nat.le_refl _ | (simp; done) | (simp; omega) | omega) _ | refine Below.alloc ?_ (by first | exact Nat.le_refl _ | (simp; done) | (simp; omega) | omega) _))).mono ?_; rintro e w4 ⟨rfl, hbw4⟩; have hBw4 : Below w.heap.size w w4 := bup (by with_reducible (repeat' first | assumption | exact Below.refl _ _ | refine Below.drew ?_ | refine bdrewN ?_ _ | refine Below.setCell ?_ (by first | exact Nat.le_refl _ | (simp; done) | (simp; omega) | omega) _ | refine Below.alloc ?_ (by first | exact Nat.le_refl _ | (simp; done) | (simp; omega) | omega) _)) hbw4; have zw4 := hBw4.size; have o0w4 : Own w4 (w.heap.size) #[.bool true, .int .i64 t, .int .i64 n, .string s, .bool b, .int .i64 c, .int .i64 r0, .int .i64 r1, .int .i64 r2, .int .i64 r3, .slice ep en ec] := Own.keep (by with_reducible (repeat' first | assumption | refine Own.drew ?_ | refine Own.drewN ?_ _ | (refine Own.at ?_; first | rfl | (simp; done)) | refine Own.past ?_ _)) hbw4; have c0 := o0w4.cell; have f0 := o0w4.fro; have l0 := o0w4.lt; have o1w4 : Own w4 (wb.heap.size) #[.bool true, .int .i64 t, .int .i64 n, .string s, .bool b, .int .i64 c, .int .i64 r0, .int .i64 r1, .int .i64 r2, .int .i64 r3, .slice ep en ec] := Own.keep (by with_reducible (repeat' first | assumption | refine Own.drew ?_ | refine Own.drewN ?_ _ | (refine Own.at ?_; first | rfl | (simp; done)) | refine Own.past ?_ _)) hbw4; have c1 := o1w4.cell; have f1 := o1w4.fro; have l1 := o1w4.lt; have o2w4 : Own w4 (w1.heap.size) #[.int .i64 (1), .int .i64 (vB), .string ⟨#[]⟩, .bool false, .int .i64 (0)] := Own.keep (by with_reducible (repeat' first | assumption | refine Own.drew ?_ | refine Own.drewN ?_ _ | (refine Own.at ?_; first | rfl | (simp; done)) | refine Own.past ?_ _)) hbw4; have c2 := o2w4.cell; have f2 := o2w4.fro; have l2 := o2w4.lt; have o3w4 : Own w4 (w2.heap.size) #[.int .i64 (1), .int .i64 (vA), .string ⟨#[]⟩, .bool false, .int .i64 (0)] := Own.keep (by with_reducible (repeat' first | assumption | refine Own.drew ?_ | refine Own.drewN ?_ _ | (refine Own.at ?_; first | rfl | (simp; done)) | refine Own.past ?_ _)) hbw4; have c3 := o3w4.cell; have f3 := o3w4.fro; have l3 := o3w4.lt; have o4w4 : Own w4 (w3.heap.size) #[.int .i64 (1), .int .i64 (vC), .string ⟨#[]⟩, .bool false, .int .i64 (0)] := Own.keep (by with_reducible (repeat' first | assumption | refine Own.drew ?_ | refine Own.drewN ?_ _ | (refine Own.at ?_; first | rfl | (simp; done)) | refine Own.past ?_ _)) hbw4; have c4 := o4w4.cell; have f4 := o4w4.fro; have l4 := o4w4.lt) | (go_at_call 9; clear t4; refine (hvK.out _ _ (av_own (a := (⟨true, t, n, s, b, c, r0, r1, r2, r3, ep, en, ec⟩ : Ag)) (g := wb.heap.size) (A := #[.bool true, .int .i64 t, .int .i64 n, .string s, .bool b, .int .i64 c, .int .i64 r0, .int .i64 r1, .int .i64 r2, .int .i64 r3, .slice ep en ec]) (by with_reducible (repeat' first | assumption | refine Own.drew ?_ | refine Own.drewN ?_ _ | (refine Own.at ?_; first | rfl | (simp; done)) | refine Own.past ?_ _)) rfl) (by with_reducible (repeat' first | assumption | exact Below.refl _ _ | refine Below.drew ?_ | refine bdrewN ?_ _ | refine Below.setCell ?_ (by first | exact Nat.le_refl _ | (simp; done) | (simp; omega) | omega) _ | refine Below.alloc ?_ (by first | exact Nat.le_refl _ | (simp; done) | (simp; omega) | omega) _))).mono ?_; rintro e w5 ⟨rfl, hbw5⟩; have hBw5 : Below w.heap.size w w5 := bup (by with_reducible (repeat' first | assumption | exact Below.refl _ _ | refine Below.drew ?_ | refine bdrewN ?_ _ | refine Below.setCell ?_ (by first | exact Nat.le_refl _ | (simp; done) | (simp; omega) | omega) _ | refine Below.alloc ?_ (by first | exact Nat.le_refl _ | (simp; done) | (simp; omega) | omega) _)) hbw5; have zw5 := hBw5.size; have o0w5 : Own w5 (w.heap.size) #[.bool true, .int .i64 t, .int .i64 n, .string s, .bool b, .int .i64 c, .int .i64 r0, .int .i64 r1, .int .i64 r2, .int .i64 r3, .slice ep en ec] := Own.keep (by with_reducible (repeat' first | assumption | refine Own.drew ?_ | refine Own.drewN ?_ _ | (refine Own.at ?_; first | rfl | (simp; done)) | refine Own.past ?_ _)) hbw5; have c0 := o0w5.cell; have f0 := o0w5.fro; have l0 := o0w5.lt; have o1w5 : Own w5 (wb.heap.size) #[.bool true, .int .i64 t, .int .i64 n, .string s, .bool b, .int .i64 c, .int .i64 r0, .int .i64 r1, .int .i64 r2, .int .i64 r3, .slice ep en ec] := Own.keep (by with_reducible (repeat' first | assumption | refine Own.drew ?_ | refine Own.drewN ?_ _ | (refine Own.at ?_; first | rfl | (simp; done)) | refine Own.past ?_ _)) hbw5; have c1 := o1w5.cell; have f1 := o1w5.fro; have l1 := o1w5.lt; have o2w5 : Own w5 (w1.heap.size) #[.int .i64 (1), .int .i64 (vB), .string ⟨#[]⟩, .bool false, .int .i64 (0)] := Own.keep (by with_reducible (repeat' first | assumption | refine Own.drew ?_ | refine Own.drewN ?_ _ | (refine Own.at ?_; first | rfl | (simp; done)) | refine Own.past ?_ _)) hbw5; have c2 := o2w5.cell; have f2 := o2w5.fro; have l2 := o2w5.lt; have o3w5 : Own w5 (w2.heap.size) #[.int .i64 (1), .int .i64 (vA), .string ⟨#[]⟩, .bool false, .int .i64 (0)] := Own.keep (by with_reducible (repeat' first | assumption | refine Own.drew ?_ | refine Own.drewN ?_ _ | (refine Own.at ?_; first | rfl | (simp; done)) | refine Own.past ?_ _)) hbw5; have c3 := o3w5.cell; have f3 := o3w5.fro; have l3 := o3w5.lt; have o4w5 : Own w5 (w3.heap.size) #[.int .i64 (1), .int .i64 (vC), .string ⟨#[]⟩, .bool false, .int .i64 (0)] := Own.keep (by with_reducible (repeat' first | assumption | refine Own.drew ?_ | refine Own.drewN ?_ _ | (refine Own.at ?_; first | rfl | (simp; done)) | refine Own.past ?_ _)) hbw5; have c4 := o4w5.cell; have f4 := o4w5.fro; have l4 := o4w5.lt; have o5w5 : Own w5 (w4.heap.size) #[.int .i64 (1), .int .i64 (vR), .string ⟨#[]⟩, .bool false, .int .i64 (0)] := Own.keep (by with_reducible (repeat' first | assumption | refine Own.drew ?_ | refine Own.drewN ?_ _ | (refine Own.at ?_; first | rfl | (simp; done)) | refine Own.past ?_ _)) hbw5; have c5 := o5w5.cell; have f5 := o5w5.fro; have l5 := o5w5.lt))
  go_region_held3 (fun w' => w'.cell? ⟨w.heap.size, 0, none⟩ = some (.bool true) ∧ w'.cell? ⟨w.heap.size, 1, none⟩ = some (.int .i64 t) ∧ w'.cell? ⟨w.heap.size, 2, none⟩ = some (.int .i64 n) ∧ w'.cell? ⟨w.heap.size, 3, none⟩ = some (.string s) ∧ w'.cell? ⟨w.heap.size, 4, none⟩ = some (.bool b) ∧ w'.cell? ⟨w.heap.size, 5, none⟩ = some (.int .i64 c) ∧ w'.cell? ⟨w.heap.size, 6, none⟩ = some (.int .i64 r0) ∧ w'.cell? ⟨w.heap.size, 7, none⟩ = some (.int .i64 r1) ∧ w'.cell? ⟨w.heap.size, 8, none⟩ = some (.int .i64 r2) ∧ w'.cell? ⟨w.heap.size, 9, none⟩ = some (.int .i64 r3) ∧ w'.cell? ⟨w.heap.size, 10, none⟩ = some (.slice ep en ec) ∧ w'.cell? ⟨w1.heap.size, 0, none⟩ = some (.int .i64 (1)) ∧ w'.cell? ⟨w1.heap.size, 1, none⟩ = some (.int .i64 (vB)) ∧ w'.cell? ⟨w1.heap.size, 2, none⟩ = some (.string ⟨#[]⟩) ∧ w'.cell? ⟨w1.heap.size, 3, none⟩ = some (.bool false) ∧ w'.cell? ⟨w1.heap.size, 4, none⟩ = some (.int .i64 (0)) ∧ w'.cell? ⟨w2.heap.size, 1, none⟩ = some (.int .i64 (vA)) ∧ w'.cell? ⟨w4.heap.size, 1, none⟩ = some (.int .i64 (vR)) ∧ w'.cell? ⟨w5.heap.size, 1, none⟩ = some (.int .i64 (vK))) ((repeat' apply And.intro) <;> (first | (go_keep; done) | (go_simp; done))) (first | (go_at_call 20; refine (single_any _ _ _ _ _ _).mono ?_; rintro e w6 ⟨rfl, hbw6⟩; have hBw6 : Below w.heap.size w w6 := bup (by with_reducible (repeat' first | assumption | exact Below.refl _ _ | refine Below.drew ?_ | refine bdrewN ?_ _ | refine Below.setCell ?_ (by first | exact Nat.le_refl _ | (simp; done) | (simp; omega) | omega) _ | refine Below.alloc ?_ (by first | exact Nat.le_refl _ | (simp; done) | (simp; omega) | omega) _)) hbw6; have zw6 := hBw6.size; have o0w6 : Own w6 (w.heap.size) #[.bool true, .int .i64 t, .int .i64 n, .string s, .bool b, .int .i64 c, .int .i64 r0, .int .i64 r1, .int .i64 r2, .int .i64 r3, .slice ep en ec] := Own.keep (by with_reducible (repeat' first | assumption | refine Own.drew ?_ | refine Own.drewN ?_ _ | (refine Own.at ?_; first | rfl | (simp; done)) | refine Own.past ?_ _)) hbw6; have c0 := o0w6.cell; have f0 := o0w6.fro; have l0 := o0w6.lt; have o1w6 : Own w6 (w1.heap.size) #[.int .i64 (1), .int .i64 (vB), .string ⟨#[]⟩, .bool false, .int .i64 (0)] := Own.keep (by with_reducible (repeat' first | assumption | refine Own.drew ?_ | refine Own.drewN ?_ _ | (refine Own.at ?_; first | rfl | (simp; done)) | refine Own.past ?_ _)) hbw6; have c1 := o1w6.cell; have f1 := o1w6.fro; have l1 := o1w6.lt; have o2w6 : Own w6 (w2.heap.size) #[.int .i64 (1), .int .i64 (vA), .string ⟨#[]⟩, .bool false, .int .i64 (0)] := Own.keep (by with_reducible (repeat' first | assumption | refine Own.drew ?_ | refine Own.drewN ?_ _ | (refine Own.at ?_; first | rfl | (simp; done)) | refine Own.past ?_ _)) hbw6; have c2 := o2w6.cell; have f2 := o2w6.fro; have l2 := o2w6.lt; have o3w6 : Own w6 (w4.heap.size) #[.int .i64 (1), .int .i64 (vR), .string ⟨#[]⟩, .bool false, .int .i64 (0)] := Own.keep (by with_reducible (repeat' first | assumption | refine Own.drew ?_ | refine Own.drewN ?_ _ | (refine Own.at ?_; first | rfl | (simp; done)) | refine Own.past ?_ _)) hbw6; have c3 := o3w6.cell; have f3 := o3w6.fro; have l3 := o3w6.lt; have o4w6 : Own w6 (w5.heap.size) #[.int .i64 (1), .int .i64 (vK), .string ⟨#[]⟩, .bool false, .int .i64 (0)] := Own.keep (by with_reducible (repeat' first | assumption | refine Own.drew ?_ | refine Own.drewN ?_ _ | (refine Own.at ?_; first | rfl | (simp; done)) | refine Own.past ?_ _)) hbw6; have c4 := o4w6.cell; have f4 := o4w6.fro; have l4 := o4w6.lt) | (go_at_call 9; refine (hvI.out _ _ (av_2 _ (⟨true, t, n, s, b, c, r0, r1, r2, r3, ep, en, ec⟩ : Ag) sgB _ _ rfl) (by with_reducible (repeat' first | assumption | exact Below.refl _ _ | refine Below.drew ?_ | refine bdrewN ?_ _ | refine Below.setCell ?_ (by first | exact Nat.le_refl _ | (simp; done) | (simp; omega) | omega) _ | refine Below.alloc ?_ (by first | exact Nat.le_refl _ | (simp; done) | (simp; omega) | omega) _))).mono ?_; rintro e w7 ⟨rfl, hbw7⟩; have hBw7 : Below w.heap.size w w7 := bup (by with_reducible (repeat' first | assumption | exact Below.refl _ _ | refine Below.drew ?_ | refine bdrewN ?_ _ | refine Below.setCell ?_ (by first | exact Nat.le_refl _ | (simp; done) | (simp; omega) | omega) _ | refine Below.alloc ?_ (by first | exact Nat.le_refl _ | (simp; done) | (simp; omega) | omega) _)) hbw7; have zw7 := hBw7.size; have o0w7 : Own w7 (w.heap.size) #[.bool true, .int .i64 t, .int .i64 n, .string s, .bool b, .int .i64 c, .int .i64 r0, .int .i64 r1, .int .i64 r2, .int .i64 r3, .slice ep en ec] := Own.keep (by with_reducible (repeat' first | assumption | refine Own.drew ?_ | refine Own.drewN ?_ _ | (refine Own.at ?_; first | rfl | (simp; done)) | refine Own.past ?_ _)) hbw7; have c0 := o0w7.cell; have f0 := o0w7.fro; have l0 := o0w7.lt; have o1w7 : Own w7 (w1.heap.size) #[.int .i64 (1), .int .i64 (vB), .string ⟨#[]⟩, .bool false, .int .i64 (0)] := Own.keep (by with_reducible (repeat' first | assumption | refine Own.drew ?_ | refine Own.drewN ?_ _ | (refine Own.at ?_; first | rfl | (simp; done)) | refine Own.past ?_ _)) hbw7; have c1 := o1w7.cell; have f1 := o1w7.fro; have l1 := o1w7.lt; have o2w7 : Own w7 (w2.heap.size) #[.int .i64 (1), .int .i64 (vA), .string ⟨#[]⟩, .bool false, .int .i64 (0)] := Own.keep (by with_reducible (repeat' first | assumption | refine Own.drew ?_ | refine Own.drewN ?_ _ | (refine Own.at ?_; first | rfl | (simp; done)) | refine Own.past ?_ _)) hbw7; have c2 := o2w7.cell; have f2 := o2w7.fro; have l2 := o2w7.lt; have o3w7 : Own w7 (w4.heap.size) #[.int .i64 (1), .int .i64 (vR), .string ⟨#[]⟩, .bool false, .int .i64 (0)] := Own.keep (by with_reducible (repeat' first | assumption | refine Own.drew ?_ | refine Own.drewN ?_ _ | (refine Own.at ?_; first | rfl | (simp; done)) | refine Own.past ?_ _)) hbw7; have c3 := o3w7.cell; have f3 := o3w7.fro; have l3 := o3w7.lt; have o4w7 : Own w7 (w5.heap.size) #[.int .i64 (1), .int .i64 (vK), .string ⟨#[]⟩, .bool false, .int .i64 (0)] := Own.keep (by with_reducible (repeat' first | assumption | refine Own.drew ?_ | refine Own.drewN ?_ _ | (refine Own.at ?_; first | rfl | (simp; done)) | refine Own.past ?_ _)) hbw7; have c4 := o4w7.cell; have f4 := o4w7.fro; have l4 := o4w7.lt))
  go_wp2
  go_ret
  exact ⟨rfl, by with_reducible (repeat' first | assumption | exact Below.refl _ _ | refine Below.drew ?_ | refine bdrewN ?_ _ | refine Below.setCell ?_ (by first | exact Nat.le_refl _ | (simp; done) | (simp; omega) | omega) _ | refine Below.alloc ?_ (by first | exact Nat.le_refl _ | (simp; done) | (simp; omega) | omega) _)⟩
end Go.Proofs.YtcgcnpcimfaecaaGreatDoor
namespace Go.Proofs.YtcgcnpcimfaecaaGreatDoor
open Go.RowKit Go.ChangeShapes Go.WideShapes Go.ChangeAt
set_option linter.all false
namespace Oa
theorem i64_of {x : Int} (h : (Lit.int .i64 x).wf = true) : I64 x := by
  have : -9223372036854775808 ≤ x ∧ x ≤ 9223372036854775807 := by simpa [Lit.wf, IntKind.min, IntKind.max, IntKind.signed, IntKind.bits] using h
  exact this
theorem cV : Tryz.prog.cellsOf 26 = 5 := by kernel_rfl
theorem cT : Tryz.prog.cellsOf 23 = 1 := by kernel_rfl
theorem cI : Tryz.prog.cellsOf 2 = 1 := by kernel_rfl
theorem cN : Tryz.prog.cellsOf 3 = 1 := by kernel_rfl
theorem cS : Tryz.prog.cellsOf 9 = 1 := by kernel_rfl
theorem cC : Tryz.prog.cellsOf 24 = 1 := by kernel_rfl
theorem cB : Tryz.prog.cellsOf 4 = 1 := by kernel_rfl
theorem cR : Tryz.prog.cellsOf 37 = 4 := by kernel_rfl
theorem cL : Tryz.prog.cellsOf 49 = 2 := by kernel_rfl
theorem cE : Tryz.prog.cellsOf 51 = 7 := by kernel_rfl
theorem cA : Tryz.prog.cellsOf 40 = 11 := by kernel_rfl
theorem cM : Tryz.prog.cellsOf 38 = 1 := by kernel_rfl
theorem rowArgs : 22 < Tryz.prog.types.size := of_decide_eq_true (by kernel_rfl)
theorem rowArg : 40 < Tryz.prog.types.size := of_decide_eq_true (by kernel_rfl)
theorem list2 {α : Type} {l : List α} (h : l.length = 2) : ∃ a b, l = [a, b] := by
  match l, h with
  | [a, b], _ => exact ⟨a, b, rfl⟩
theorem list4 {α : Type} {l : List α} (h : l.length = 4) : ∃ a b c d, l = [a, b, c, d] := by
  match l, h with
  | [a, b, c, d], _ => exact ⟨a, b, c, d, rfl⟩
theorem list5 {α : Type} {l : List α} (h : l.length = 5) : ∃ a b c d e, l = [a, b, c, d, e] := by
  match l, h with
  | [a, b, c, d, e], _ => exact ⟨a, b, c, d, e, rfl⟩
theorem list7 {α : Type} {l : List α} (h : l.length = 7) : ∃ a b c d e f g, l = [a, b, c, d, e, f, g] := by
  match l, h with
  | [a, b, c, d, e, f, g], _ => exact ⟨a, b, c, d, e, f, g, rfl⟩
theorem list11 {α : Type} {l : List α} (h : l.length = 11) : ∃ a b c d e f g i j k m, l = [a, b, c, d, e, f, g, i, j, k, m] := by
  match l, h with
  | [a, b, c, d, e, f, g, i, j, k, m], _ => exact ⟨a, b, c, d, e, f, g, i, j, k, m, rfl⟩
section
variable {H : Type} {enc : TypeId × Value → H} {w : World} {base : Nat} {spare : Nat → Bool} {held : Bool} {r : Reach} {b0 : Nat}
set_option maxRecDepth 100000 in
theorem trod_val {n : Nat} {c0 c1 c2 c3 c4 : Value} {y : DataW H × List MemPlace} (h : DataW.trod enc Tryz.prog w base spare held n 26 [c0, c1, c2, c3, c4] = some y) : ∃ (t m : Int) (s : ByteArray) (b : Bool) (c : Int), c0 = .int .i64 t ∧ c1 = .int .i64 m ∧ c2 = .string s ∧ c3 = .bool b ∧ c4 = .int .i64 c ∧ I64 t ∧ I64 m ∧ I64 c ∧ s.size ≤ maxLen := by
  obtain ⟨xs, nf, _, hx, hl, hlen, hf⟩ := DataW.trod_struct Tryz.underlying26 h
  obtain ⟨y0, y1, y2, y3, y4, rfl⟩ := list5 (show xs.length = 5 by simpa using hlen)
  have g0 : DataW.trod enc Tryz.prog w base spare held nf 23 [c0] = some y0 := by
    have q := hf 0 _ rfl
    simpa [cT] using q
  have g1 : DataW.trod enc Tryz.prog w base spare held nf 2 [c1] = some y1 := by
    have q := hf 1 _ rfl
    simpa [cI] using q
  have g2 : DataW.trod enc Tryz.prog w base spare held nf 9 [c2] = some y2 := by
    have q := hf 2 _ rfl
    simpa [cS] using q
  have g3 : DataW.trod enc Tryz.prog w base spare held nf 4 [c3] = some y3 := by
    have q := hf 3 _ rfl
    simpa [cB] using q
  have g4 : DataW.trod enc Tryz.prog w base spare held nf 24 [c4] = some y4 := by
    have q := hf 4 _ rfl
    simpa [cC] using q
  obtain ⟨t, e0, _, w0⟩ := DataW.trod_int Tryz.underlying23 g0
  obtain ⟨m, e1, _, w1⟩ := DataW.trod_int Tryz.underlying2 g1
  obtain ⟨s, e2, _, w2⟩ := DataW.trod_string Tryz.underlying9 g2
  obtain ⟨b, e3, _⟩ := DataW.trod_bool Tryz.underlying4 g3
  obtain ⟨c, e4, _, w4⟩ := DataW.trod_int Tryz.underlying24 g4
  simp only [List.cons.injEq, and_true] at e0 e1 e2 e3 e4
  exact ⟨t, m, s, b, c, e0, e1, e2, e3, e4, i64_of w0, i64_of w1, i64_of w4, w2⟩
set_option maxRecDepth 100000 in
theorem trod_rect {n : Nat} {c0 c1 c2 c3 : Value} {y : DataW H × List MemPlace} (h : DataW.trod enc Tryz.prog w base spare held n 37 [c0, c1, c2, c3] = some y) : ∃ r0 r1 r2 r3 : Int, c0 = .int .i64 r0 ∧ c1 = .int .i64 r1 ∧ c2 = .int .i64 r2 ∧ c3 = .int .i64 r3 ∧ I64 r0 ∧ I64 r1 ∧ I64 r2 ∧ I64 r3 := by
  obtain ⟨xs, nf, _, hx, hl, hlen, hf⟩ := DataW.trod_struct Tryz.underlying37 h
  obtain ⟨y0, y1, y2, y3, rfl⟩ := list4 (show xs.length = 4 by simpa using hlen)
  have g0 : DataW.trod enc Tryz.prog w base spare held nf 3 [c0] = some y0 := by
    have q := hf 0 _ rfl
    simpa [cN] using q
  have g1 : DataW.trod enc Tryz.prog w base spare held nf 3 [c1] = some y1 := by
    have q := hf 1 _ rfl
    simpa [cN] using q
  have g2 : DataW.trod enc Tryz.prog w base spare held nf 3 [c2] = some y2 := by
    have q := hf 2 _ rfl
    simpa [cN] using q
  have g3 : DataW.trod enc Tryz.prog w base spare held nf 3 [c3] = some y3 := by
    have q := hf 3 _ rfl
    simpa [cN] using q
  obtain ⟨a0, e0, _, w0⟩ := DataW.trod_int Tryz.underlying3 g0
  obtain ⟨a1, e1, _, w1⟩ := DataW.trod_int Tryz.underlying3 g1
  obtain ⟨a2, e2, _, w2⟩ := DataW.trod_int Tryz.underlying3 g2
  obtain ⟨a3, e3, _, w3⟩ := DataW.trod_int Tryz.underlying3 g3
  simp only [List.cons.injEq, and_true] at e0 e1 e2 e3
  exact ⟨a0, a1, a2, a3, e0, e1, e2, e3, i64_of w0, i64_of w1, i64_of w2, i64_of w3⟩
set_option maxRecDepth 100000 in
theorem trod_cell {n : Nat} {c0 c1 : Value} {y : DataW H × List MemPlace} (h : DataW.trod enc Tryz.prog w base spare held n 49 [c0, c1] = some y) : ∃ r0 r1 : Int, c0 = .int .i64 r0 ∧ c1 = .int .i64 r1 ∧ I64 r0 ∧ I64 r1 := by
  obtain ⟨xs, nf, _, hx, hl, hlen, hf⟩ := DataW.trod_struct Tryz.underlying49 h
  obtain ⟨y0, y1, rfl⟩ := list2 (show xs.length = 2 by simpa using hlen)
  have g0 : DataW.trod enc Tryz.prog w base spare held nf 3 [c0] = some y0 := by
    have q := hf 0 _ rfl
    simpa [cN] using q
  have g1 : DataW.trod enc Tryz.prog w base spare held nf 3 [c1] = some y1 := by
    have q := hf 1 _ rfl
    simpa [cN] using q
  obtain ⟨a0, e0, _, w0⟩ := DataW.trod_int Tryz.underlying3 g0
  obtain ⟨a1, e1, _, w1⟩ := DataW.trod_int Tryz.underlying3 g1
  simp only [List.cons.injEq, and_true] at e0 e1
  exact ⟨a0, a1, e0, e1, i64_of w0, i64_of w1⟩
/-- The numbers of an entry fit, and its text. -/
def EnW (x : En) : Prop := I64 x.r ∧ I64 x.k ∧ I64 x.t ∧ I64 x.n ∧ I64 x.c ∧ x.s.size ≤ maxLen
set_option maxRecDepth 100000 in
theorem trod_ent {n : Nat} {cs : List Value} {y : DataW H × List MemPlace} (h : DataW.trod enc Tryz.prog w base spare held n 51 cs = some y) : ∃ x : En, cs = x.cells.toList ∧ EnW x ∧ 1 ≤ Rows.uptoBulk y.1 := by
  obtain ⟨xs, nf, _, hx, hl, hlen, hf⟩ := DataW.trod_struct Tryz.underlying51 h
  obtain ⟨c0, c1, c2, c3, c4, c5, c6, rfl⟩ := list7 (hl.trans cE)
  obtain ⟨y0, y1, rfl⟩ := list2 (show xs.length = 2 by simpa using hlen)
  have g0 : DataW.trod enc Tryz.prog w base spare held nf 49 [c0, c1] = some y0 := by
    have q := hf 0 _ rfl
    simpa [cL] using q
  have g1 : DataW.trod enc Tryz.prog w base spare held nf 26 [c2, c3, c4, c5, c6] = some y1 := by
    have q := hf 1 _ rfl
    simpa [cV] using q
  obtain ⟨r, k, rfl, rfl, w0, w1⟩ := trod_cell g0
  obtain ⟨t, m, s, b, c, rfl, rfl, rfl, rfl, rfl, w2, w3, w4, w5⟩ := trod_val g1
  exact ⟨⟨r, k, t, m, s, b, c⟩, rfl, ⟨w0, w1, w2, w3, w4, w5⟩, by rw [hx]; simp only [Rows.uptoBulk]; omega⟩
set_option maxRecDepth 100000 in
theorem val_weight {n : Nat} {c0 c1 c2 c3 c4 : Value} {y : DataW H × List MemPlace} {s : ByteArray} (hs : c2 = .string s) (h : DataW.trod enc Tryz.prog w base spare held n 26 [c0, c1, c2, c3, c4] = some y) : s.size ∈ DataW.weights Tryz.prog 26 y.1 := by
  obtain ⟨xs, nf, _, hx, hl, hlen, hf⟩ := DataW.trod_struct Tryz.underlying26 h
  obtain ⟨y0, y1, y2, y3, y4, rfl⟩ := list5 (show xs.length = 5 by simpa using hlen)
  have g2 : DataW.trod enc Tryz.prog w base spare held nf 9 [c2] = some y2 := by
    have q := hf 2 _ rfl
    simpa [cS] using q
  obtain ⟨s', e2, ey, _⟩ := DataW.trod_string Tryz.underlying9 g2
  subst hs
  simp only [List.cons.injEq, Value.string.injEq, and_true] at e2
  subst e2
  rw [hx, ey]
  simp only [List.map_cons, List.map_nil, DataW.weights, Tryz.underlying26, DataW.weightsEach, List.mem_append, List.mem_cons]
  have e : s.data.toList.length = s.size := by rw [Array.length_toList]; rfl
  rw [e]
  simp
set_option maxRecDepth 100000 in
theorem ent_weight {n : Nat} {cs : List Value} {y : DataW H × List MemPlace} {x : En} (e : cs = x.cells.toList) (h : DataW.trod enc Tryz.prog w base spare held n 51 cs = some y) : x.s.size ∈ DataW.weights Tryz.prog 51 y.1 := by
  subst e
  obtain ⟨xs, nf, _, hx, hl, hlen, hf⟩ := DataW.trod_struct Tryz.underlying51 h
  obtain ⟨y0, y1, rfl⟩ := list2 (show xs.length = 2 by simpa using hlen)
  have g1 : DataW.trod enc Tryz.prog w base spare held nf 26 [.int .i64 x.t, .int .i64 x.n, .string x.s, .bool x.b, .int .i64 x.c] = some y1 := by
    have q := hf 1 _ rfl
    simpa [cV, En.cells] using q
  have hv := val_weight rfl g1
  rw [hx]
  simp only [List.map_cons, List.map_nil, DataW.weights, Tryz.underlying51]
  exact List.mem_append_right _ (List.mem_append_left _ hv)
set_option maxRecDepth 100000 in
/-- A slice whose elements come in as x : α. -/
theorem open_list {α : Type} {cells : α → Array Value} {k : Nat} (hk : 0 < k) (x0 : α) {T E : TypeId} (hU : Tryz.prog.underlying T = some (.slice E)) (hcE : Tryz.prog.cellsOf E = k) {Q : α → DataW H → Prop}
    (elem : ∀ {n : Nat} {cs : List Value} {y : DataW H × List MemPlace}, DataW.trod enc Tryz.prog w base spare held n E cs = some y → ∃ x : α, cs = (cells x).toList ∧ Q x y.1)
    {fp : Option Addr} {fn fc : Nat} {fuel : Nat} {d : DataW H} {p : List MemPlace} (g : DataW.trod enc Tryz.prog w base spare held fuel T [.slice fp fn fc] = some (d, p)) :
    ∃ l : List α, View cells k w (.slice fp fn fc) l ∧ l.length = fn ∧ fn ≤ maxLen ∧ ((l = [] ∧ d = .nil) ∨ ∃ elems sp, elems.length = l.length ∧ (∀ (i : Nat) (x : α) (e : DataW H), l[i]? = some x → elems[i]? = some e → Q x e) ∧ d = .slice elems sp) := by
  rcases Go.Deep.open_slice hU g with ⟨h1, h2⟩ | ⟨a, len, cap, m, n, D, Pl, h1, hb, hlc, hcm, hm, h2, hel⟩
  · simp only [List.cons.injEq, Value.slice.injEq, and_true] at h1
    obtain ⟨rfl, rfl, rfl⟩ := h1
    exact ⟨[], ⟨none, 0, rfl, Nat.le_refl _, fun h => absurd h (by simp)⟩, rfl, Nat.zero_le _, .inl ⟨rfl, congrArg Prod.fst h2⟩⟩
  · simp only [List.cons.injEq, Value.slice.injEq, and_true] at h1
    obtain ⟨rfl, rfl, rfl⟩ := h1
    have hlm : fn ≤ m := by rw [hm]; split <;> omega
    have each : ∀ i, i < fn → ∃ x : α, Q x (D i) ∧ ∀ j, j < k → w.cell? ((a.add (i * k)).add j) = (cells x)[j]? := fun i hi => by
      obtain ⟨cs', hc, ht⟩ := hel i (by omega)
      rw [hcE] at hc
      obtain ⟨_, hl4, hcell⟩ := World.cells?_some hc
      obtain ⟨x, rfl, hQ⟩ := elem ht
      exact ⟨x, hQ, fun j hj => by rw [hcell j hj]; simp⟩
    have ha : 0 < fn → a = ⟨a.block, a.off, none⟩ ∧ a.block < w.heap.size := fun h0 => by
      obtain ⟨cs', hc, ht⟩ := hel 0 (by omega)
      rw [hcE] at hc
      obtain ⟨_, hl4, hcell⟩ := World.cells?_some hc
      have h3 := hcell 0 hk
      have hlt : 0 < cs'.length := by omega
      rw [List.getElem?_eq_getElem hlt] at h3
      rw [show (a.add (0 * k)).add 0 = a by simp [Addr.add]] at h3
      have hs := World.cell?_spot h3
      have h4 := World.block_lt_of_cell? w _ h3
      obtain ⟨b, o, s⟩ := a
      simp only at hs
      rw [hs]
      exact ⟨rfl, h4⟩
    classical
    have hex : ∀ i : Nat, ∃ x : α, i < fn → (Q x (D i) ∧ ∀ j, j < k → w.cell? ((a.add (i * k)).add j) = (cells x)[j]?) := fun i => by
      by_cases hi : i < fn
      · obtain ⟨x, hx⟩ := each i hi
        exact ⟨x, fun _ => hx⟩
      · exact ⟨x0, fun h => absurd h hi⟩
    let f : Nat → α := fun i => Classical.choose (hex i)
    have hf2 : ∀ i, i < fn → (Q (f i) (D i) ∧ ∀ j, j < k → w.cell? ((a.add (i * k)).add j) = (cells (f i))[j]?) := fun i => Classical.choose_spec (hex i)
    have hnl : ((List.range fn).map f).length = fn := by simp
    refine ⟨(List.range fn).map f, ⟨some a, fc, by rw [hnl], by rw [hnl]; exact hlc, fun h0 => ?_⟩, hnl, Nat.le_trans hlc hcm, .inr ⟨(List.range fn).map D, (List.range (m - fn)).map (fun j => D (fn + j)), by simp, fun i x e hi he => ?_, ?_⟩⟩
    · rw [hnl] at h0
      refine ⟨a.block, a.off, congrArg some (ha h0).1, (ha h0).2, fun i x hi j hj => ?_⟩
      have hil : i < fn := by have := (List.getElem?_eq_some_iff.1 hi).1; rwa [hnl] at this
      have e : x = f i := by
        rw [List.getElem?_map, List.getElem?_range hil] at hi
        simpa using hi.symm
      rw [e, ← (hf2 i hil).2 j hj]
      congr 1
      rw [Go.Deep.add_add, (ha h0).1]
      simp [Addr.add, Nat.add_assoc]
    · have hil : i < fn := by have := (List.getElem?_eq_some_iff.1 hi).1; rwa [hnl] at this
      rw [List.getElem?_map, List.getElem?_range hil] at hi he
      simp at hi he
      subst hi he
      exact (hf2 i hil).1
    · have h2' := congrArg Prod.fst h2
      simpa using h2'
theorem bulk_len : ∀ (es : List (DataW H)), (∀ e ∈ es, 1 ≤ Rows.uptoBulk e) → es.length ≤ Rows.uptoBulkAll es
  | [], _ => Nat.zero_le _
  | x :: r, h => by
    have h1 := bulk_len r (fun e he => h e (List.mem_cons_of_mem _ he))
    have h2 := h x (List.mem_cons_self ..)
    simp only [Rows.uptoBulkAll, List.length_cons]
    omega
/-- What is known of an argument and its entries. -/
def AgW (w : World) (p : Ag × List En) : Prop := (I64 p.1.t ∧ I64 p.1.n ∧ I64 p.1.c ∧ I64 p.1.r0 ∧ I64 p.1.r1 ∧ I64 p.1.r2 ∧ I64 p.1.r3) ∧ View En.cells 7 w (.slice p.1.ep p.1.en p.1.ec) p.2 ∧ p.2.length = p.1.en ∧ p.1.en ≤ maxLen ∧ ∀ x ∈ p.2, EnW x
theorem AgW.e {w : World} {p : Ag × List En} (h : AgW w p) (hf : p.2.length ≤ 1099511627776) : AgE w p := ⟨h.2.1, fun x hx => (h.2.2.2.2 x hx).2.2.2.1, h.1.2.1, hf⟩
theorem weights_all {P : Program} {T : TypeId} {n : Nat} {d : DataW H} : ∀ {l : List (DataW H)}, d ∈ l → n ∈ DataW.weights P T d → n ∈ DataW.weightsAll P T l
  | x :: r, hm, hn => by
    simp only [DataW.weightsAll]
    rcases List.mem_cons.1 hm with rfl | hm
    · exact List.mem_append_left _ hn
    · exact List.mem_append_right _ (weights_all hm hn)
set_option maxRecDepth 100000 in
theorem trod_arg {n : Nat} {cs : List Value} {y : DataW H × List MemPlace} (h : DataW.trod enc Tryz.prog w base spare held n 40 cs = some y) : ∃ x : Ag × List En, cs = (Ag.cells x.1).toList ∧ AgW w x ∧ x.2.length + 1 ≤ Rows.uptoBulk y.1 ∧ ∀ e ∈ x.2, e.s.size ∈ DataW.weights Tryz.prog 40 y.1 := by
  obtain ⟨xs, nf, _, hx, hl, hlen, hf⟩ := DataW.trod_struct Tryz.underlying40 h
  obtain ⟨c0, c1, c2, c3, c4, c5, c6, c7, c8, c9, c10, rfl⟩ := list11 (hl.trans cA)
  obtain ⟨y0, y1, y2, y3, rfl⟩ := list4 (show xs.length = 4 by simpa using hlen)
  have g0 : DataW.trod enc Tryz.prog w base spare held nf 4 [c0] = some y0 := by
    have q := hf 0 _ rfl
    simpa [cB] using q
  have g1 : DataW.trod enc Tryz.prog w base spare held nf 26 [c1, c2, c3, c4, c5] = some y1 := by
    have q := hf 1 _ rfl
    simpa [cV] using q
  have g2 : DataW.trod enc Tryz.prog w base spare held nf 37 [c6, c7, c8, c9] = some y2 := by
    have q := hf 2 _ rfl
    simpa [cR] using q
  have g3 : DataW.trod enc Tryz.prog w base spare held nf 38 [c10] = some y3 := by
    have q := hf 3 _ rfl
    simpa [cM] using q
  obtain ⟨mb, e0, _⟩ := DataW.trod_bool Tryz.underlying4 g0
  simp only [List.cons.injEq, and_true] at e0
  subst e0
  obtain ⟨t, m, s, b, c, rfl, rfl, rfl, rfl, rfl, w2, w3, w4, _⟩ := trod_val g1
  obtain ⟨r0, r1, r2, r3, rfl, rfl, rfl, rfl, w5, w6, w7, w8⟩ := trod_rect g2
  have hsl : ∃ fp fn fc, c10 = .slice fp fn fc := by
    rcases Go.Deep.open_slice Tryz.underlying38 g3 with ⟨h1, _⟩ | ⟨a, len, cap, _, _, _, _, h1, _⟩
    · simp only [List.cons.injEq, and_true] at h1; exact ⟨_, _, _, h1⟩
    · simp only [List.cons.injEq, and_true] at h1; exact ⟨_, _, _, h1⟩
  obtain ⟨fp, fn, fc, rfl⟩ := hsl
  obtain ⟨es, hv, hln, hmx, hd⟩ := open_list (cells := En.cells) (k := 7) (by decide) ⟨0, 0, 0, 0, ⟨#[]⟩, false, 0⟩ Tryz.underlying38 cE (Q := fun x d => (EnW x ∧ 1 ≤ Rows.uptoBulk d) ∧ x.s.size ∈ DataW.weights Tryz.prog 51 d) (fun ht => by obtain ⟨x, e, h1, h2⟩ := trod_ent ht; exact ⟨x, e, ⟨h1, h2⟩, ent_weight e ht⟩) (show DataW.trod enc Tryz.prog w base spare held nf 38 [.slice fp fn fc] = some (y3.1, y3.2) from g3)
  have hEs : ∀ x ∈ es, EnW x := fun x hx => by
    rcases hd with ⟨rfl, _⟩ | ⟨elems, sp, hle, hq, _⟩
    · cases hx
    · obtain ⟨i, hi, rfl⟩ := List.getElem_of_mem hx
      exact (hq i _ _ (List.getElem?_eq_getElem hi) (List.getElem?_eq_getElem (by omega))).1.1
  refine ⟨(⟨mb, t, m, s, b, c, r0, r1, r2, r3, fp, fn, fc⟩, es), rfl, ⟨⟨w2, w3, w4, w5, w6, w7, w8⟩, hv, hln, hmx, hEs⟩, ?_, ?_⟩
  rotate_left
  · intro e he
    rw [hx]
    simp only [List.map_cons, List.map_nil, DataW.weights, Tryz.underlying40]
    rcases hd with ⟨rfl, _⟩ | ⟨elems, sp, hle, hq, hd⟩
    · cases he
    · obtain ⟨i, hi, rfl⟩ := List.getElem_of_mem he
      have hi3 : i < es.length := hi
      have hi2 : i < elems.length := by omega
      have hw := (hq i _ _ (List.getElem?_eq_getElem hi) (List.getElem?_eq_getElem hi2)).2
      refine List.mem_append_right _ (List.mem_append_right _ (List.mem_append_right _ (List.mem_append_left _ ?_)))
      rw [hd]
      simp only [DataW.weights, Tryz.underlying38]
      exact List.mem_cons_of_mem _ (List.mem_append_left _ (weights_all (List.getElem_mem hi2) hw))
  rw [hx]
  rcases hd with ⟨rfl, hn⟩ | ⟨elems, sp, hle, hq, hd⟩
  · simp only [Rows.uptoBulk, List.length_nil]; omega
  · have hb : es.length ≤ Rows.uptoBulkAll elems := by
      rw [← hle]
      refine bulk_len elems (fun e he => ?_)
      obtain ⟨i, hi, rfl⟩ := List.getElem_of_mem he
      exact (hq i _ _ (List.getElem?_eq_getElem (by omega)) (List.getElem?_eq_getElem hi)).1.2
    simp only [List.map_cons, List.map_nil, Rows.uptoBulk, Rows.uptoBulkAll, hd]
    omega
/-- How many entries there are, and arguments. -/
def tot (l : List (Ag × List En)) : Nat := (l.map (fun p => p.2.length + 1)).sum
theorem tot_bulk : ∀ (l : List (Ag × List En)) (es : List (DataW H)), es.length = l.length → (∀ (i : Nat) (x : Ag × List En) (e : DataW H), l[i]? = some x → es[i]? = some e → x.2.length + 1 ≤ Rows.uptoBulk e) → tot l ≤ Rows.uptoBulkAll es
  | [], es, h, _ => Nat.zero_le _
  | p :: l, [], h, _ => by cases h
  | p :: l, e :: es, h, hq => by
    have h1 := tot_bulk l es (by simpa using h) (fun i x e' hi he => hq (i + 1) x e' (by simpa using hi) (by simpa using he))
    have h2 := hq 0 p e rfl rfl
    simp only [tot, List.map_cons, List.sum_cons, Rows.uptoBulkAll] at h1 ⊢
    omega
set_option maxRecDepth 100000 in
theorem open_arg {v : Value} {d : DataW H} {p : List MemPlace} (hv : Value.okWide Tryz.prog w r b0 40 v) (h : DataW.Trod enc Tryz.prog w base spare held 40 v d p) :
    ∃ x : Ag × List En, v = .agg (Ag.cells x.1) ∧ AgW w x := by
  obtain ⟨cs, rfl, hsz⟩ := okWide_struct Tryz.underlying40 hv
  obtain ⟨fuel, hf⟩ := h
  obtain ⟨x, e, h1, _⟩ := trod_arg (show DataW.trod enc Tryz.prog w base spare held fuel 40 cs.toList = some (d, p) from hf)
  refine ⟨x, ?_, h1⟩
  rw [← Array.toArray_toList (xs := cs), e, Array.toArray_toList]
set_option maxRecDepth 100000 in
theorem open_argw {v : Value} {d : DataW H} {p : List MemPlace} (hv : Value.okWide Tryz.prog w r b0 40 v) (h : DataW.Trod enc Tryz.prog w base spare held 40 v d p) :
    ∃ x : Ag × List En, v = .agg (Ag.cells x.1) ∧ AgW w x ∧ ∀ e ∈ x.2, e.s.size ∈ DataW.weights Tryz.prog 40 d := by
  obtain ⟨cs, rfl, hsz⟩ := okWide_struct Tryz.underlying40 hv
  obtain ⟨fuel, hf⟩ := h
  obtain ⟨x, e, h1, _, h2⟩ := trod_arg (show DataW.trod enc Tryz.prog w base spare held fuel 40 cs.toList = some (d, p) from hf)
  refine ⟨x, ?_, h1, h2⟩
  rw [← Array.toArray_toList (xs := cs), e, Array.toArray_toList]
theorem trod_num {n : Nat} {cs : List Value} {y : DataW H × List MemPlace} (h : DataW.trod enc Tryz.prog w base spare held n 2 cs = some y) : ∃ x : Int, cs = (icell x).toList ∧ I64 x := by
  obtain ⟨t, e0, _, w0⟩ := DataW.trod_int Tryz.underlying2 h
  exact ⟨t, e0, i64_of w0⟩
set_option maxRecDepth 100000 in
theorem open_nums {v : Value} {d : DataW H} {p : List MemPlace} (hv : Value.okWide Tryz.prog w r b0 42 v) (h : DataW.Trod enc Tryz.prog w base spare held 42 v d p) :
    ∃ l : List Int, View icell 1 w v l ∧ (∀ x ∈ l, I64 x) ∧ l.length ≤ maxLen := by
  obtain ⟨fp, fn, fc, rfl⟩ := okWide_slice Tryz.underlying42 hv
  obtain ⟨fuel, hf⟩ := h
  obtain ⟨l, hv, hln, hmx, hd⟩ := open_list (cells := icell) (k := 1) (by decide) 0 Tryz.underlying42 cI (Q := fun x d => I64 x) (fun ht => trod_num ht) (show DataW.trod enc Tryz.prog w base spare held fuel 42 [.slice fp fn fc] = some (d, p) from hf)
  refine ⟨l, hv, fun x hx => ?_, by rw [hln]; exact hmx⟩
  rcases hd with ⟨rfl, _⟩ | ⟨elems, sp, hle, hq, _⟩
  · cases hx
  · obtain ⟨i, hi, rfl⟩ := List.getElem_of_mem hx
    exact hq i _ _ (List.getElem?_eq_getElem hi) (List.getElem?_eq_getElem (by omega))
set_option maxRecDepth 100000 in
theorem open_args {v : Value} {d : DataW H} {p : List MemPlace} (hv : Value.okWide Tryz.prog w r b0 22 v) (h : DataW.Trod enc Tryz.prog w base spare held 22 v d p) :
    ∃ l : List (Ag × List En), AV w v (l.map Prod.fst) ∧ (∀ x ∈ l, AgW w x) ∧ tot l ≤ Rows.uptoBulk d := by
  obtain ⟨fp, fn, fc, rfl⟩ := okWide_slice Tryz.underlying22 hv
  obtain ⟨fuel, hf⟩ := h
  obtain ⟨l, hv, hln, hmx, hd⟩ := open_list (cells := fun x : Ag × List En => Ag.cells x.1) (k := 11) (by decide) (⟨false, 0, 0, ⟨#[]⟩, false, 0, 0, 0, 0, 0, none, 0, 0⟩, []) Tryz.underlying22 cA (Q := fun x d => AgW w x ∧ x.2.length + 1 ≤ Rows.uptoBulk d) (fun ht => by obtain ⟨x, e, h1, h2, _⟩ := trod_arg ht; exact ⟨x, e, h1, h2⟩) (show DataW.trod enc Tryz.prog w base spare held fuel 22 [.slice fp fn fc] = some (d, p) from hf)
  refine ⟨l, ?_, fun x hx => ?_, ?_⟩
  · obtain ⟨p', c', e, hc, hf⟩ := hv
    refine ⟨p', c', by rw [List.length_map]; exact e, by rw [List.length_map]; exact hc, fun h0 => ?_⟩
    rw [List.length_map] at h0
    obtain ⟨b, o, e2, hlt, hcell⟩ := hf h0
    refine ⟨b, o, e2, hlt, fun i x hi j hj => ?_⟩
    rw [List.getElem?_map] at hi
    obtain ⟨y, hy, rfl⟩ := Option.map_eq_some_iff.1 hi
    exact hcell i y hy j hj
  · rcases hd with ⟨rfl, _⟩ | ⟨elems, sp, hle, hq, _⟩
    · cases hx
    · obtain ⟨i, hi, rfl⟩ := List.getElem_of_mem hx
      exact (hq i _ _ (List.getElem?_eq_getElem hi) (List.getElem?_eq_getElem (by omega))).1
  · rcases hd with ⟨rfl, _⟩ | ⟨elems, sp, hle, hq, rfl⟩
    · exact Nat.zero_le _
    · have := tot_bulk l elems hle (fun i x e hi he => (hq i x e hi he).2)
      simp only [Rows.uptoBulk]
      omega
end
theorem len_tot : ∀ (l : List (Ag × List En)), l.length ≤ tot l
  | [] => Nat.zero_le _
  | p :: l => by have := len_tot l; simp only [tot, List.map_cons, List.sum_cons, List.length_cons] at this ⊢; omega
theorem bulk_app {H : Type} (a b : List (DataW H)) : Rows.uptoBulkAll (a ++ b) = Rows.uptoBulkAll a + Rows.uptoBulkAll b := by
  induction a with
  | nil => simp [Rows.uptoBulkAll]
  | cons x r ih => simp only [List.cons_append, Rows.uptoBulkAll, ih]; omega
theorem bulk_at {H : Type} {d : DataW H} {a m : List (DataW H)} {K : Nat} (h : Rows.uptoBulkAll (a ++ d :: m) ≤ K) : Rows.uptoBulk d ≤ K := by
  rw [bulk_app] at h
  simp only [Rows.uptoBulkAll] at h
  omega
end Oa
end Go.Proofs.YtcgcnpcimfaecaaGreatDoor
