/- DepsTurned's walk. New memory alone is made. -/
import Derived.Test.YtgojnijpjfdocaaGreatGB
namespace Go.Proofs.YtgojnijpjfdocaaGreat
open Go.RowKit Go.Shelf
set_option linter.all false
theorem Own.low {w w' : World} {b w0 : Nat} {A : Array Value} (h : Own w b A) (hb : Below w0 w w') (hl : b < w0) : Own w' b A := h.of_block (hb.block b hl)
/-- The setting of one Deps: what lies below B0 is none of its own. -/
theorem dset_base (w W : World) (B0 N : Nat) (D : List Dv) (d : Dv) (h : Dw (fun b => b < B0) W N D) (hd : DvW w d) (hw : w.heap.size ≤ B0) (hB : B0 ≤ W.heap.size) (hb : Below w.heap.size w W) (hs : cst (D ++ [d]) ≤ 1048576) : Calls Tryz.prog 11 #[.pointer (some ⟨N, 0, none⟩), .agg #[.int .i64 d.r, .int .i64 d.c], .slice d.p d.n d.k] W fun e w' => e = .returned (.int .i64 d.err) ∧ Dw (fun b => b < B0) w' N (D ++ [d]) ∧ Below B0 W w' := by
  refine (dset_next w W N _ D d h hd (fun b q => Nat.lt_of_lt_of_le q hw) (fun b q => Nat.lt_of_lt_of_le q hB) hb hs).mono ?_
  rintro e w' ⟨rfl, k1, k2⟩
  exact ⟨rfl, k1, k2.toB hB (fun b q => q)⟩
theorem any_snoc {α : Type} {l : List α} {k : Nat} {p : α} (f : α → Bool) (h : l[k]? = some p) : (l.take (k + 1)).any f = ((l.take k).any f || f p) := by rw [List.take_succ, h, List.any_append]; simp
/-- An edge tells that a cell refers to the place. -/
def telE (x y : Int) (z : Cl) (p : Ed) : Bool := inB p.f.t p.f.l p.f.b p.f.q x y && sameC p.r p.c z.r z.c
def isE (p : Ed) (z : Cl) : Bool := sameC z.r z.c p.r p.c
theorem who_has {E : Int → Int → List Rf} {x y : Int} {L : List Cl} {P : List Ed} (h : IsWho E x y L) (hP : IsEdg E P) {z : Cl} (hz : z ∈ L) : P.any (telE x y z) = true := by
  obtain ⟨f, h1, h2⟩ := (h.2 z).1 hz
  exact List.any_eq_true.2 ⟨⟨z.r, z.c, f⟩, (hP.2 _).2 h1, by unfold telE; rw [h2, sameC_refl]; rfl⟩
theorem edg_told {E : Int → Int → List Rf} {x y : Int} {L : List Cl} {P : List Ed} (h : IsWho E x y L) (hP : IsEdg E P) {p : Ed} (hp : p ∈ P) (hin : inB p.f.t p.f.l p.f.b p.f.q x y = true) : L.any (isE p) = true :=
  List.any_eq_true.2 ⟨⟨p.r, p.c⟩, (h.2 _).2 ⟨p.f, (hP.2 p).1 hp, hin⟩, sameC_refl _ _⟩
theorem who_next {E : Int → Int → List Rf} {x y : Int} {L : List Cl} (h : IsWho E x y L) {i : Nat} {a z : Cl} (h0 : L[i]? = some a) (h1 : L[i + 1]? = some z) : befB a.r a.c z.r z.c = true := by
  obtain ⟨q0, rfl⟩ := List.getElem?_eq_some_iff.1 h0
  obtain ⟨q1, rfl⟩ := List.getElem?_eq_some_iff.1 h1
  have := List.pairwise_iff_getElem.1 h.1 i (i + 1) q0 q1 (by omega)
  rw [cmpK_neg] at this
  exact befB_t this
theorem each_cl {w : World} {v : Value} {l : List Cl} (h : VL 2 Cl.cs w v l) : ∃ q cap, v = .slice q l.length cap ∧ l.length ≤ cap ∧ cap ≤ 9223372036854775807 ∧ ∀ i, i < l.length → ∃ g z, q = some ⟨g, 0, none⟩ ∧ g < w.heap.size ∧ l[i]? = some z ∧ w.cell? ⟨g, i * 2, none⟩ = some (.int .i64 z.r) ∧ w.cell? ⟨g, i * 2 + 1, none⟩ = some (.int .i64 z.c) := by
  obtain ⟨q, cap, h1, h2, h3, h4⟩ := h
  refine ⟨q, cap, h1, h2, h3, fun i hi => ?_⟩
  obtain ⟨g, k1, k2, k3⟩ := h4 (by omega)
  exact ⟨g, l[i], k1, k2, List.getElem?_eq_getElem hi, k3 i _ (List.getElem?_eq_getElem hi) 0 _ rfl, k3 i _ (List.getElem?_eq_getElem hi) 1 _ rfl⟩
theorem each_ed {w : World} {v : Value} {l : List Ed} (h : VL 7 Ed.cs w v l) : ∃ q cap, v = .slice q l.length cap ∧ l.length ≤ cap ∧ cap ≤ 9223372036854775807 ∧ ∀ k, k < l.length → ∃ g p, q = some ⟨g, 0, none⟩ ∧ g < w.heap.size ∧ l[k]? = some p ∧ w.cell? ⟨g, k * 7, none⟩ = some (.int .i64 p.r) ∧ w.cell? ⟨g, k * 7 + 1, none⟩ = some (.int .i64 p.c) ∧ w.cell? ⟨g, k * 7 + 2, none⟩ = some (.bool p.f.m) ∧ w.cell? ⟨g, k * 7 + 3, none⟩ = some (.int .i64 p.f.t) ∧ w.cell? ⟨g, k * 7 + 4, none⟩ = some (.int .i64 p.f.l) ∧ w.cell? ⟨g, k * 7 + 5, none⟩ = some (.int .i64 p.f.b) ∧ w.cell? ⟨g, k * 7 + 6, none⟩ = some (.int .i64 p.f.q) := by
  obtain ⟨q, cap, h1, h2, h3, h4⟩ := h
  refine ⟨q, cap, h1, h2, h3, fun i hi => ?_⟩
  obtain ⟨g, k1, k2, k3⟩ := h4 (by omega)
  have hx := List.getElem?_eq_getElem hi
  exact ⟨g, l[i], k1, k2, hx, k3 i _ hx 0 _ rfl, k3 i _ hx 1 _ rfl, k3 i _ hx 2 _ rfl, k3 i _ hx 3 _ rfl, k3 i _ hx 4 _ rfl, k3 i _ hx 5 _ rfl, k3 i _ hx 6 _ rfl⟩
set_option maxRecDepth 100000 in
set_option maxHeartbeats 16000000 in
theorem turned_any (w : World) (v : Value) (l : List Dv) (cx cy : Int) (h : DVw w v l) (hs : cst l ≤ 1048576) (hx : I64 cx) (hy : I64 cy) : Calls Tryz.prog 5 #[v, .agg #[.int .i64 cx, .int .i64 cy]] w fun e w' => e = .returned (.bool true) ∧ Below w.heap.size w w' := by
  have mixed : Tryz.prog.follows .mixedOrders = true := by kernel_rfl
  obtain ⟨p, cap, rfl, hcap, hcm, hV0, hW0⟩ := h
  obtain ⟨n, hn⟩ : ∃ n, n = l.length := ⟨_, rfl⟩
  rw [← hn] at hcap hV0
  rw [← hn]
  have HN : Hid (n = l.length) := hn
  have HV : Hid _ := hV0
  have HSt : Hid (∀ W N i d, Dw (fun b => b < w.heap.size + 1) W N (l.take i) → l[i]? = some d → Below w.heap.size w W → w.heap.size + 1 ≤ W.heap.size → Calls Tryz.prog 11 #[.pointer (some ⟨N, 0, none⟩), .agg #[.int .i64 d.r, .int .i64 d.c], .slice d.p d.n d.k] W fun e w' => e = .returned (.int .i64 d.err) ∧ Dw (fun b => b < w.heap.size + 1) w' N (l.take (i + 1)) ∧ Below (w.heap.size + 1) W w') := (show _ from fun W N i d h hd hb hz => by
    rw [take_next hd]
    exact dset_base w W _ N (l.take i) d h (hW0 d (List.mem_of_getElem? hd)) (by omega) hz hb (by rw [← take_next hd]; exact Nat.le_trans (cst_le l _) hs))
  have HDi : Hid (∀ W N, Dw (fun b => b < w.heap.size + 1) W N l → Calls Tryz.prog 15 #[.pointer (some ⟨N, 0, none⟩), .agg #[.int .i64 cx, .int .i64 cy]] W fun e w' => ∃ v, e = .returned v ∧ ∃ k, RowG 33 2 Cl.cs w' W.heap.size v k ∧ IsWho (runE l) cx cy k ∧ Below W.heap.size W w') := (show _ from fun W N h => ddir_dw W N _ _ cx cy h hx hy)
  have HEd : Hid (∀ W N, Dw (fun b => b < w.heap.size + 1) W N l → Calls Tryz.prog 18 #[.pointer (some ⟨N, 0, none⟩)] W fun e w' => ∃ v, e = .returned v ∧ ∃ k, RowD w' W.heap.size v k ∧ IsEdg (runE l) k ∧ Below W.heap.size W w') := (show _ from fun W N h => dedg_dw W N _ _ h hs)
  clear hn hV0 hW0 hs hx hy
  go_enter Tryz.func5, Tryz.ntmps5
  go_wp2_with (go_at_call 9; refine (dnew_dw _).mono ?_; rintro e w1 ⟨N, rfl, q0, q1, q2⟩; have HD1 : Hid (Dw (fun b => b < w.heap.size + 1) w1 N []) := (show Dw _ _ _ _ from Dw.fresh q1 (fun b q => .inl (by simpa using q))); have hB1 : Below w.heap.size w w1 := bup (by with_reducible (repeat' first | assumption | exact Below.refl _ _ | refine Below.drew ?_ | refine bdrewN ?_ _ | refine Below.setCell ?_ (by first | exact Nat.le_refl _ | (simp; done) | (simp; omega) | omega) _ | refine Below.alloc ?_ (by first | exact Nat.le_refl _ | (simp; done) | (simp; omega) | omega) _)) q2; have oP1 : Own w1 w.heap.size #[.int .i64 cx, .int .i64 cy] := Own.keep (by with_reducible (repeat' first | assumption | refine Own.drew ?_ | refine Own.drewN ?_ _ | (refine Own.at ?_; first | rfl | (simp; done)) | refine Own.past ?_ _)) q2; have zz1 : w.heap.size + 1 ≤ w1.heap.size := (by simpa using q2.size); clear q0 q1 q2)
  go_loopw [6] (fun u6 w' => ∃ i : Nat, u6 = .int .i64 i ∧ i ≤ n ∧ Hid (Dw (fun b => b < w.heap.size + 1) w' N (l.take i)) ∧ Own w' w.heap.size #[.int .i64 cx, .int .i64 cy] ∧ w.heap.size + 1 ≤ w'.heap.size ∧ Below w.heap.size w w') (fun u6 _ => n - (intOf u6).toNat)
  case atStart => exact ⟨0, rfl, by omega, (show Dw _ _ _ _ from by rw [List.take_zero]; exact HD1.out.keep (by with_reducible (repeat' first | assumption | exact Below.refl _ _ | refine Below.drew ?_ | refine bdrewN ?_ _ | refine Below.setCell ?_ (by first | exact Nat.le_refl _ | (simp; done) | (simp; omega) | omega) _ | refine Below.alloc ?_ (by first | exact Nat.le_refl _ | (simp; done) | (simp; omega) | omega) _))), by with_reducible (repeat' first | assumption | refine Own.drew ?_ | refine Own.drewN ?_ _ | (refine Own.at ?_; first | rfl | (simp; done)) | refine Own.past ?_ _), by first | exact zz1 | (simp; omega), by with_reducible (repeat' first | assumption | exact Below.refl _ _ | refine Below.drew ?_ | refine bdrewN ?_ _ | refine Below.setCell ?_ (by first | exact Nat.le_refl _ | (simp; done) | (simp; omega) | omega) _ | refine Below.alloc ?_ (by first | exact Nat.le_refl _ | (simp; done) | (simp; omega) | omega) _)⟩
  case round =>
    clear HD1 hB1 oP1 zz1
    obtain ⟨i, rfl, hi, HD, oP, hzr, hB⟩ := hrel
    by_cases hlt : i < n
    · have hlt' : (i : Int) < n := by omega
      obtain ⟨b, o, rfl, hbl, hdc⟩ := HV.out (by omega)
      obtain ⟨d, hd⟩ : ∃ d, l[i]? = some d := ⟨_, List.getElem?_eq_getElem (by rw [← HN.out]; omega)⟩
      have r0 : wr.cell? ⟨b, o + i * 3, none⟩ = some (.int .i64 d.r) := (hB.cell (p := ⟨b, o + i * 3, none⟩) hbl).trans (hdc i d hd 0 _ rfl)
      have r1 : wr.cell? ⟨b, o + i * 3 + 1, none⟩ = some (.int .i64 d.c) := (hB.cell (p := ⟨b, o + i * 3 + 1, none⟩) hbl).trans (hdc i d hd 1 _ rfl)
      have r2 : wr.cell? ⟨b, o + i * 3 + 2, none⟩ = some (.slice d.p d.n d.k) := (hB.cell (p := ⟨b, o + i * 3 + 2, none⟩) hbl).trans (hdc i d hd 2 _ rfl)
      have zz := hB.size
      have hbw : b < wr.heap.size := by omega
      have HSi : Hid (∀ W, Dw (fun b => b < w.heap.size + 1) W N (l.take i) → Below w.heap.size w W → w.heap.size + 1 ≤ W.heap.size → Calls Tryz.prog 11 #[.pointer (some ⟨N, 0, none⟩), .agg #[.int .i64 d.r, .int .i64 d.c], .slice d.p d.n d.k] W fun e w' => e = .returned (.int .i64 d.err) ∧ Dw (fun b => b < w.heap.size + 1) w' N (l.take (i + 1)) ∧ Below (w.heap.size + 1) W w') := (show _ from fun W h hb hz => HSt.out W N i d h hd hb hz)
      have hd0 : w.cell? ⟨b, o + i * 3, none⟩ = some (.int .i64 d.r) := hdc i d hd 0 _ rfl
      have hd1 : w.cell? ⟨b, o + i * 3 + 1, none⟩ = some (.int .i64 d.c) := hdc i d hd 1 _ rfl
      have hd2 : w.cell? ⟨b, o + i * 3 + 2, none⟩ = some (.slice d.p d.n d.k) := hdc i d hd 2 _ rfl
      clear hd hdc
      go_wp2
      go_region_held3 (fun w' => w'.cell? ⟨b, o + i * 3, none⟩ = some (.int .i64 d.r) ∧ w'.cell? ⟨b, o + i * 3 + 1, none⟩ = some (.int .i64 d.c) ∧ w'.cell? ⟨b, o + i * 3 + 2, none⟩ = some (.slice d.p d.n d.k)) ((repeat' apply And.intro) <;> (first | (go_keep; done) | (go_simp; done))) ((go_at_call 11; refine (HSi.out _ (HD.out.keep (by with_reducible (repeat' first | assumption | exact Below.refl _ _ | refine Below.drew ?_ | refine bdrewN ?_ _ | refine Below.setCell ?_ (by first | exact Nat.le_refl _ | (simp; done) | (simp; omega) | omega) _ | refine Below.alloc ?_ (by first | exact Nat.le_refl _ | (simp; done) | (simp; omega) | omega) _))) (by with_reducible (repeat' first | assumption | exact Below.refl _ _ | refine Below.drew ?_ | refine bdrewN ?_ _ | refine Below.setCell ?_ (by first | exact Nat.le_refl _ | (simp; done) | (simp; omega) | omega) _ | refine Below.alloc ?_ (by first | exact Nat.le_refl _ | (simp; done) | (simp; omega) | omega) _)) (by first | exact hzr | (simp; omega))).mono ?_; rintro e wb ⟨rfl, q1, q2⟩; have HDb : Hid (Dw (fun b => b < w.heap.size + 1) wb N (l.take (i + 1))) := q1; have oPb : Own wb w.heap.size #[.int .i64 cx, .int .i64 cy] := Own.low (by with_reducible (repeat' first | assumption | refine Own.drew ?_ | refine Own.drewN ?_ _ | (refine Own.at ?_; first | rfl | (simp; done)) | refine Own.past ?_ _)) q2 (by omega); have hBb : Below w.heap.size w wb := Below.trans (show Below w.heap.size w _ from by with_reducible (repeat' first | assumption | exact Below.refl _ _ | refine Below.drew ?_ | refine bdrewN ?_ _ | refine Below.setCell ?_ (by first | exact Nat.le_refl _ | (simp; done) | (simp; omega) | omega) _ | refine Below.alloc ?_ (by first | exact Nat.le_refl _ | (simp; done) | (simp; omega) | omega) _)) (q2.mono (by omega)); have zrb : w.heap.size + 1 ≤ wb.heap.size := Nat.le_trans (by first | exact hzr | (simp; omega)) q2.size; have s0 : wb.cell? ⟨b, o + i * 3, none⟩ = some (.int .i64 d.r) := (hBb.cell (p := ⟨b, o + i * 3, none⟩) hbl).trans hd0; have s1 : wb.cell? ⟨b, o + i * 3 + 1, none⟩ = some (.int .i64 d.c) := (hBb.cell (p := ⟨b, o + i * 3 + 1, none⟩) hbl).trans hd1; have s2 : wb.cell? ⟨b, o + i * 3 + 2, none⟩ = some (.slice d.p d.n d.k) := (hBb.cell (p := ⟨b, o + i * 3 + 2, none⟩) hbl).trans hd2; clear q1 q2))
      go_wp2
      exact ⟨⟨i + 1, by go_num, by omega, (show Dw _ _ _ _ from HDb.out.keep (by with_reducible (repeat' first | assumption | exact Below.refl _ _ | refine Below.drew ?_ | refine bdrewN ?_ _ | refine Below.setCell ?_ (by first | exact Nat.le_refl _ | (simp; done) | (simp; omega) | omega) _ | refine Below.alloc ?_ (by first | exact Nat.le_refl _ | (simp; done) | (simp; omega) | omega) _))), by with_reducible (repeat' first | assumption | refine Own.drew ?_ | refine Own.drewN ?_ _ | (refine Own.at ?_; first | rfl | (simp; done)) | refine Own.past ?_ _), by first | exact zrb | (simp; omega), by with_reducible (repeat' first | assumption | exact Below.refl _ _ | refine Below.drew ?_ | refine bdrewN ?_ _ | refine Below.setCell ?_ (by first | exact Nat.le_refl _ | (simp; done) | (simp; omega) | omega) _ | refine Below.alloc ?_ (by first | exact Nat.le_refl _ | (simp; done) | (simp; omega) | omega) _)⟩, by simp [intOf] <;> omega⟩
    · have hin : i = n := by omega
      have hlt' : ¬ (i : Int) < n := by omega
      have HDl : Hid (Dw (fun b => b < w.heap.size + 1) wr N l) := (show Dw _ _ _ _ from by
        have q := HD.out
        rwa [hin, HN.out, List.take_length] at q)
      have hwz : w.heap.size < wr.heap.size := by omega
      have be0 : wr.cell? ⟨w.heap.size, 0, none⟩ = some (.int .i64 cx) := oP.cell 0
      have be1 : wr.cell? ⟨w.heap.size, 1, none⟩ = some (.int .i64 cy) := oP.cell 1
      clear HSt HD
      go_wp2_with (first
        | (go_at_call 15; refine (HDi.out _ N (HDl.out.keep (by with_reducible (repeat' first | assumption | exact Below.refl _ _ | refine Below.drew ?_ | refine bdrewN ?_ _ | refine Below.setCell ?_ (by first | exact Nat.le_refl _ | (simp; done) | (simp; omega) | omega) _ | refine Below.alloc ?_ (by first | exact Nat.le_refl _ | (simp; done) | (simp; omega) | omega) _)))).mono ?_; rintro e w4 ⟨v4, rfl, L, q1, q2, q3⟩; have HIw : Hid (IsWho (runE l) cx cy L) := q2; have hB4 : Below wr.heap.size wr w4 := bup (by with_reducible (repeat' first | assumption | exact Below.refl _ _ | refine Below.drew ?_ | refine bdrewN ?_ _ | refine Below.setCell ?_ (by first | exact Nat.le_refl _ | (simp; done) | (simp; omega) | omega) _ | refine Below.alloc ?_ (by first | exact Nat.le_refl _ | (simp; done) | (simp; omega) | omega) _)) q3; have HL4 : Hid (VL 2 Cl.cs w4 v4 L) := RowG.vl Cl.len q1; have HD4 : Hid (Dw (fun b => b < w.heap.size + 1) w4 N l) := (show Dw _ _ _ _ from HDl.out.keep hB4); clear q1 q2 q3)
        | (go_at_call 18; refine (HEd.out _ N (HD4.out.keep (by with_reducible (repeat' first | assumption | exact Below.refl _ _ | refine Below.drew ?_ | refine bdrewN ?_ _ | refine Below.setCell ?_ (by first | exact Nat.le_refl _ | (simp; done) | (simp; omega) | omega) _ | refine Below.alloc ?_ (by first | exact Nat.le_refl _ | (simp; done) | (simp; omega) | omega) _)))).mono ?_; rintro e w5 ⟨v5, rfl, P, q1, q2, q3⟩; have HIe : Hid (IsEdg (runE l) P) := q2; have hB5 : Below wr.heap.size wr w5 := bup (by with_reducible (repeat' first | assumption | exact Below.refl _ _ | refine Below.drew ?_ | refine bdrewN ?_ _ | refine Below.setCell ?_ (by first | exact Nat.le_refl _ | (simp; done) | (simp; omega) | omega) _ | refine Below.alloc ?_ (by first | exact Nat.le_refl _ | (simp; done) | (simp; omega) | omega) _)) q3; have hk5 : Below w4.heap.size w4 w5 := bup (by with_reducible (repeat' first | assumption | exact Below.refl _ _ | refine Below.drew ?_ | refine bdrewN ?_ _ | refine Below.setCell ?_ (by first | exact Nat.le_refl _ | (simp; done) | (simp; omega) | omega) _ | refine Below.alloc ?_ (by first | exact Nat.le_refl _ | (simp; done) | (simp; omega) | omega) _)) q3; have HP5 : Hid (VL 7 Ed.cs w5 v5 P) := RowG.vl Ed.len q1; have HL5 : Hid (VL 2 Cl.cs w5 v4 L) := (show VL _ _ _ _ _ from HL4.out.keep hk5); obtain ⟨qa, ca, rfl, ha1, ha2, hPe0⟩ := each_ed HP5.out; obtain ⟨ql, cl, rfl, hl1, hl2, hLe0⟩ := each_cl HL5.out; clear q1 q2 q3))
      obtain ⟨m, hm⟩ : ∃ m, m = P.length := ⟨_, rfl⟩
      obtain ⟨nl, hnl⟩ : ∃ nl, nl = L.length := ⟨_, rfl⟩
      rw [← hm] at ha1 hPe0
      rw [← hnl] at hl1 hLe0
      rw [← hm, ← hnl]
      have HLe : Hid _ := hLe0
      have HPe : Hid _ := hPe0
      have HnL : Hid (nl = L.length) := hnl
      have HmP : Hid (m = P.length) := hm
      have hG : Below w.heap.size w w5 := hB.trans (hB5.mono (by omega))
      have be0 : w5.cell? ⟨w.heap.size, 0, none⟩ = some (.int .i64 cx) := (hB5.cell (p := ⟨w.heap.size, 0, none⟩) hwz).trans be0
      have be1 : w5.cell? ⟨w.heap.size, 1, none⟩ = some (.int .i64 cy) := (hB5.cell (p := ⟨w.heap.size, 1, none⟩) hwz).trans be1
      have hwz : w.heap.size < w5.heap.size := Nat.lt_of_lt_of_le hwz hB5.size
      have hB0 := Below.refl w5.heap.size w5
      clear HDi HEd HDl HD4 hLe0 hPe0 hnl hm hB4 hB5 hk5 HL4 HL5 HP5 oP hzr hB HV HN
      go_loopw [9] (fun u9 w' => ∃ k : Nat, u9 = .int .i64 k ∧ k ≤ m ∧ Below w5.heap.size w5 w') (fun u9 _ => m - (intOf u9).toNat)
      case atStart => exact ⟨0, rfl, by omega, by with_reducible (repeat' first | assumption | exact Below.refl _ _ | refine Below.drew ?_ | refine bdrewN ?_ _ | refine Below.setCell ?_ (by first | exact Nat.le_refl _ | (simp; done) | (simp; omega) | omega) _ | refine Below.alloc ?_ (by first | exact Nat.le_refl _ | (simp; done) | (simp; omega) | omega) _)⟩
      case round =>
        clear hB0
        obtain ⟨k, rfl, hk, hB⟩ := hrel
        by_cases hlk : k < m
        · have hlk' : (k : Int) < m := by omega
          obtain ⟨ga, p, rfl, hga, hp, e0, e1, e2, e3, e4, e5, e6⟩ := HPe.out k hlk
          have HPk : Hid (P[k]? = some p) := hp
          clear hp
          obtain ⟨bi, hbi⟩ : ∃ bi, bi = inB p.f.t p.f.l p.f.b p.f.q cx cy := ⟨_, rfl⟩
          have HBi : Hid (bi = inB p.f.t p.f.l p.f.b p.f.q cx cy) := hbi
          have HI : Hid (∀ W, Calls Tryz.prog 21 #[.agg #[.int .i64 p.f.t, .int .i64 p.f.l, .int .i64 p.f.b, .int .i64 p.f.q], .agg #[.int .i64 cx, .int .i64 cy]] W fun e w' => e = .returned (.bool bi) ∧ Below W.heap.size W w') := (show _ from fun W => by rw [hbi]; exact rin_any _ _ _ _ _ _ W)
          clear hbi
          have d0 : wr.cell? ⟨ga, k * 7, none⟩ = some (.int .i64 p.r) := (hB.cell (p := ⟨ga, k * 7, none⟩) hga).trans e0
          have d1 : wr.cell? ⟨ga, k * 7 + 1, none⟩ = some (.int .i64 p.c) := (hB.cell (p := ⟨ga, k * 7 + 1, none⟩) hga).trans e1
          have d2 : wr.cell? ⟨ga, k * 7 + 2, none⟩ = some (.bool p.f.m) := (hB.cell (p := ⟨ga, k * 7 + 2, none⟩) hga).trans e2
          have d3 : wr.cell? ⟨ga, k * 7 + 3, none⟩ = some (.int .i64 p.f.t) := (hB.cell (p := ⟨ga, k * 7 + 3, none⟩) hga).trans e3
          have d4 : wr.cell? ⟨ga, k * 7 + 4, none⟩ = some (.int .i64 p.f.l) := (hB.cell (p := ⟨ga, k * 7 + 4, none⟩) hga).trans e4
          have d5 : wr.cell? ⟨ga, k * 7 + 5, none⟩ = some (.int .i64 p.f.b) := (hB.cell (p := ⟨ga, k * 7 + 5, none⟩) hga).trans e5
          have d6 : wr.cell? ⟨ga, k * 7 + 6, none⟩ = some (.int .i64 p.f.q) := (hB.cell (p := ⟨ga, k * 7 + 6, none⟩) hga).trans e6
          have b0 : wr.cell? ⟨w.heap.size, 0, none⟩ = some (.int .i64 cx) := (hB.cell (p := ⟨w.heap.size, 0, none⟩) hwz).trans be0
          have b1 : wr.cell? ⟨w.heap.size, 1, none⟩ = some (.int .i64 cy) := (hB.cell (p := ⟨w.heap.size, 1, none⟩) hwz).trans be1
          go_wp2
          go_region_held3 (fun w' => w'.cell? ⟨ga, k * 7, none⟩ = some (.int .i64 p.r) ∧ w'.cell? ⟨ga, k * 7 + 1, none⟩ = some (.int .i64 p.c) ∧ w'.cell? ⟨ga, k * 7 + 2, none⟩ = some (.bool p.f.m) ∧ w'.cell? ⟨ga, k * 7 + 3, none⟩ = some (.int .i64 p.f.t) ∧ w'.cell? ⟨ga, k * 7 + 4, none⟩ = some (.int .i64 p.f.l) ∧ w'.cell? ⟨ga, k * 7 + 5, none⟩ = some (.int .i64 p.f.b) ∧ w'.cell? ⟨ga, k * 7 + 6, none⟩ = some (.int .i64 p.f.q) ∧ w'.cell? ⟨w.heap.size, 0, none⟩ = some (.int .i64 cx) ∧ w'.cell? ⟨w.heap.size, 1, none⟩ = some (.int .i64 cy)) ((repeat' apply And.intro) <;> (first | (go_keep; done) | (go_simp; done))) ((go_at_call 21; refine (HI.out _).mono ?_; rintro e wa ⟨rfl, hb⟩; have hBa : Below w5.heap.size w5 wa := bup (by with_reducible (repeat' first | assumption | exact Below.refl _ _ | refine Below.drew ?_ | refine bdrewN ?_ _ | refine Below.setCell ?_ (by first | exact Nat.le_refl _ | (simp; done) | (simp; omega) | omega) _ | refine Below.alloc ?_ (by first | exact Nat.le_refl _ | (simp; done) | (simp; omega) | omega) _)) hb; have qa0 : wa.cell? ⟨ga, k * 7, none⟩ = some (.int .i64 p.r) := (hBa.cell (p := ⟨ga, k * 7, none⟩) hga).trans e0; have qa1 : wa.cell? ⟨ga, k * 7 + 1, none⟩ = some (.int .i64 p.c) := (hBa.cell (p := ⟨ga, k * 7 + 1, none⟩) hga).trans e1; have qa2 : wa.cell? ⟨ga, k * 7 + 2, none⟩ = some (.bool p.f.m) := (hBa.cell (p := ⟨ga, k * 7 + 2, none⟩) hga).trans e2; have qa3 : wa.cell? ⟨ga, k * 7 + 3, none⟩ = some (.int .i64 p.f.t) := (hBa.cell (p := ⟨ga, k * 7 + 3, none⟩) hga).trans e3; have qa4 : wa.cell? ⟨ga, k * 7 + 4, none⟩ = some (.int .i64 p.f.l) := (hBa.cell (p := ⟨ga, k * 7 + 4, none⟩) hga).trans e4; have qa5 : wa.cell? ⟨ga, k * 7 + 5, none⟩ = some (.int .i64 p.f.b) := (hBa.cell (p := ⟨ga, k * 7 + 5, none⟩) hga).trans e5; have qa6 : wa.cell? ⟨ga, k * 7 + 6, none⟩ = some (.int .i64 p.f.q) := (hBa.cell (p := ⟨ga, k * 7 + 6, none⟩) hga).trans e6; have ba0 : wa.cell? ⟨w.heap.size, 0, none⟩ = some (.int .i64 cx) := (hBa.cell (p := ⟨w.heap.size, 0, none⟩) hwz).trans be0; have ba1 : wa.cell? ⟨w.heap.size, 1, none⟩ = some (.int .i64 cy) := (hBa.cell (p := ⟨w.heap.size, 1, none⟩) hwz).trans be1; clear hb))
          go_wp2
          go_loopw [11, 12] (fun u11 u12 w' => ∃ i : Nat, u12 = .int .i64 i ∧ i ≤ nl ∧ u11 = .bool ((L.take i).any (isE p)) ∧ Below w5.heap.size w5 w') (fun _ u12 _ => nl - (intOf u12).toNat)
          case atStart => exact ⟨0, rfl, by omega, by simp, by with_reducible (repeat' first | assumption | exact Below.refl _ _ | refine Below.drew ?_ | refine bdrewN ?_ _ | refine Below.setCell ?_ (by first | exact Nat.le_refl _ | (simp; done) | (simp; omega) | omega) _ | refine Below.alloc ?_ (by first | exact Nat.le_refl _ | (simp; done) | (simp; omega) | omega) _)⟩
          case round =>
            clear hB
            obtain ⟨i, rfl, hi, rfl, hB⟩ := hrel
            obtain ⟨has, hhas⟩ : ∃ has, has = (L.take i).any (isE p) := ⟨_, rfl⟩
            rw [← hhas]
            have d0 : wr.cell? ⟨ga, k * 7, none⟩ = some (.int .i64 p.r) := (hB.cell (p := ⟨ga, k * 7, none⟩) hga).trans e0
            have d1 : wr.cell? ⟨ga, k * 7 + 1, none⟩ = some (.int .i64 p.c) := (hB.cell (p := ⟨ga, k * 7 + 1, none⟩) hga).trans e1
            have d2 : wr.cell? ⟨ga, k * 7 + 2, none⟩ = some (.bool p.f.m) := (hB.cell (p := ⟨ga, k * 7 + 2, none⟩) hga).trans e2
            have d3 : wr.cell? ⟨ga, k * 7 + 3, none⟩ = some (.int .i64 p.f.t) := (hB.cell (p := ⟨ga, k * 7 + 3, none⟩) hga).trans e3
            have d4 : wr.cell? ⟨ga, k * 7 + 4, none⟩ = some (.int .i64 p.f.l) := (hB.cell (p := ⟨ga, k * 7 + 4, none⟩) hga).trans e4
            have d5 : wr.cell? ⟨ga, k * 7 + 5, none⟩ = some (.int .i64 p.f.b) := (hB.cell (p := ⟨ga, k * 7 + 5, none⟩) hga).trans e5
            have d6 : wr.cell? ⟨ga, k * 7 + 6, none⟩ = some (.int .i64 p.f.q) := (hB.cell (p := ⟨ga, k * 7 + 6, none⟩) hga).trans e6
            by_cases hlt : i < nl
            · have hlt' : (i : Int) < nl := by omega
              obtain ⟨g, z, rfl, hg, hz, ce0, ce1⟩ := HLe.out i hlt
              have HX : Hid ((L.take (i + 1)).any (isE p) = (has || sameC z.r z.c p.r p.c)) := (show _ = _ by rw [any_snoc _ hz, ← hhas]; rfl)
              clear hz hhas
              have c0 : wr.cell? ⟨g, i * 2, none⟩ = some (.int .i64 z.r) := (hB.cell (p := ⟨g, i * 2, none⟩) hg).trans ce0
              have c1 : wr.cell? ⟨g, i * 2 + 1, none⟩ = some (.int .i64 z.c) := (hB.cell (p := ⟨g, i * 2 + 1, none⟩) hg).trans ce1
              have heq := eqC z.r z.c p.r p.c
              cases has
              · go_wp2
                go_quiet (fail)
                go_wp2
                exact ⟨⟨i + 1, by go_num, by omega, by rw [HX.out, Bool.false_or], by with_reducible (repeat' first | assumption | exact Below.refl _ _ | refine Below.drew ?_ | refine bdrewN ?_ _ | refine Below.setCell ?_ (by first | exact Nat.le_refl _ | (simp; done) | (simp; omega) | omega) _ | refine Below.alloc ?_ (by first | exact Nat.le_refl _ | (simp; done) | (simp; omega) | omega) _)⟩, by simp [intOf] <;> omega⟩
              · go_wp2
                go_quiet (fail)
                go_wp2
                exact ⟨⟨i + 1, by go_num, by omega, by rw [HX.out, Bool.true_or], by with_reducible (repeat' first | assumption | exact Below.refl _ _ | refine Below.drew ?_ | refine bdrewN ?_ _ | refine Below.setCell ?_ (by first | exact Nat.le_refl _ | (simp; done) | (simp; omega) | omega) _ | refine Below.alloc ?_ (by first | exact Nat.le_refl _ | (simp; done) | (simp; omega) | omega) _)⟩, by simp [intOf] <;> omega⟩
            · have hlt' : ¬ (i : Int) < nl := by omega
              have hin2 : i = nl := by omega
              rw [hin2, HnL.out, List.take_length] at hhas
              have HH : Hid (has = L.any (isE p)) := hhas
              clear hhas hin2 hi hlt
              cases bi
              · clear HH
                go_wp2
                exact ⟨⟨k + 1, by go_num, by omega, by with_reducible (repeat' first | assumption | exact Below.refl _ _ | refine Below.drew ?_ | refine bdrewN ?_ _ | refine Below.setCell ?_ (by first | exact Nat.le_refl _ | (simp; done) | (simp; omega) | omega) _ | refine Below.alloc ?_ (by first | exact Nat.le_refl _ | (simp; done) | (simp; omega) | omega) _)⟩, by simp [intOf] <;> omega⟩
              · have hh : has = true := by rw [HH.out]; exact edg_told HIw.out HIe.out (List.mem_of_getElem? HPk.out) HBi.out.symm
                subst hh
                clear HH
                go_wp2
                exact ⟨⟨k + 1, by go_num, by omega, by with_reducible (repeat' first | assumption | exact Below.refl _ _ | refine Below.drew ?_ | refine bdrewN ?_ _ | refine Below.setCell ?_ (by first | exact Nat.le_refl _ | (simp; done) | (simp; omega) | omega) _ | refine Below.alloc ?_ (by first | exact Nat.le_refl _ | (simp; done) | (simp; omega) | omega) _)⟩, by simp [intOf] <;> omega⟩
        · have hlk' : ¬ (k : Int) < m := by omega
          clear hlk hk
          go_wp2
          go_loopw [13] (fun u13 w' => ∃ i : Nat, u13 = .int .i64 i ∧ i ≤ nl ∧ Below w5.heap.size w5 w') (fun u13 _ => nl - (intOf u13).toNat)
          case atStart => exact ⟨0, rfl, by omega, by with_reducible (repeat' first | assumption | exact Below.refl _ _ | refine Below.drew ?_ | refine bdrewN ?_ _ | refine Below.setCell ?_ (by first | exact Nat.le_refl _ | (simp; done) | (simp; omega) | omega) _ | refine Below.alloc ?_ (by first | exact Nat.le_refl _ | (simp; done) | (simp; omega) | omega) _)⟩
          case round =>
            clear hB hlk'
            obtain ⟨i, rfl, hi, hB⟩ := hrel
            by_cases hlt : i < nl
            · have hlt' : (i : Int) < nl := by omega
              obtain ⟨g, z, rfl, hg, hz, ce0, ce1⟩ := HLe.out i hlt
              have HZ : Hid (L[i]? = some z) := hz
              clear hz
              go_wp2
              go_loopw [14, 15] (fun u14 u15 w' => ∃ k : Nat, u15 = .int .i64 k ∧ k ≤ m ∧ u14 = .bool ((P.take k).any (telE cx cy z)) ∧ Below w5.heap.size w5 w') (fun _ u15 _ => m - (intOf u15).toNat)
              case atStart => exact ⟨0, rfl, by omega, by simp, by with_reducible (repeat' first | assumption | exact Below.refl _ _ | refine Below.drew ?_ | refine bdrewN ?_ _ | refine Below.setCell ?_ (by first | exact Nat.le_refl _ | (simp; done) | (simp; omega) | omega) _ | refine Below.alloc ?_ (by first | exact Nat.le_refl _ | (simp; done) | (simp; omega) | omega) _)⟩
              case round =>
                clear hB
                obtain ⟨k, rfl, hk, rfl, hB⟩ := hrel
                obtain ⟨has, hhas⟩ : ∃ has, has = (P.take k).any (telE cx cy z) := ⟨_, rfl⟩
                rw [← hhas]
                by_cases hlk : k < m
                · have hlk' : (k : Int) < m := by omega
                  obtain ⟨ga, p, rfl, hga, hp, e0, e1, e2, e3, e4, e5, e6⟩ := HPe.out k hlk
                  obtain ⟨bi, hbi⟩ : ∃ bi, bi = inB p.f.t p.f.l p.f.b p.f.q cx cy := ⟨_, rfl⟩
                  have HX : Hid ((P.take (k + 1)).any (telE cx cy z) = (has || (bi && sameC p.r p.c z.r z.c))) := (show _ = _ by rw [any_snoc _ hp, ← hhas, hbi]; rfl)
                  have HI : Hid (∀ W, Calls Tryz.prog 21 #[.agg #[.int .i64 p.f.t, .int .i64 p.f.l, .int .i64 p.f.b, .int .i64 p.f.q], .agg #[.int .i64 cx, .int .i64 cy]] W fun e w' => e = .returned (.bool bi) ∧ Below W.heap.size W w') := (show _ from fun W => by rw [hbi]; exact rin_any _ _ _ _ _ _ W)
                  clear hp hhas hbi
                  have d0 : wr.cell? ⟨ga, k * 7, none⟩ = some (.int .i64 p.r) := (hB.cell (p := ⟨ga, k * 7, none⟩) hga).trans e0
                  have d1 : wr.cell? ⟨ga, k * 7 + 1, none⟩ = some (.int .i64 p.c) := (hB.cell (p := ⟨ga, k * 7 + 1, none⟩) hga).trans e1
                  have d2 : wr.cell? ⟨ga, k * 7 + 2, none⟩ = some (.bool p.f.m) := (hB.cell (p := ⟨ga, k * 7 + 2, none⟩) hga).trans e2
                  have d3 : wr.cell? ⟨ga, k * 7 + 3, none⟩ = some (.int .i64 p.f.t) := (hB.cell (p := ⟨ga, k * 7 + 3, none⟩) hga).trans e3
                  have d4 : wr.cell? ⟨ga, k * 7 + 4, none⟩ = some (.int .i64 p.f.l) := (hB.cell (p := ⟨ga, k * 7 + 4, none⟩) hga).trans e4
                  have d5 : wr.cell? ⟨ga, k * 7 + 5, none⟩ = some (.int .i64 p.f.b) := (hB.cell (p := ⟨ga, k * 7 + 5, none⟩) hga).trans e5
                  have d6 : wr.cell? ⟨ga, k * 7 + 6, none⟩ = some (.int .i64 p.f.q) := (hB.cell (p := ⟨ga, k * 7 + 6, none⟩) hga).trans e6
                  have c0 : wr.cell? ⟨g, i * 2, none⟩ = some (.int .i64 z.r) := (hB.cell (p := ⟨g, i * 2, none⟩) hg).trans ce0
                  have c1 : wr.cell? ⟨g, i * 2 + 1, none⟩ = some (.int .i64 z.c) := (hB.cell (p := ⟨g, i * 2 + 1, none⟩) hg).trans ce1
                  have b0 : wr.cell? ⟨w.heap.size, 0, none⟩ = some (.int .i64 cx) := (hB.cell (p := ⟨w.heap.size, 0, none⟩) hwz).trans be0
                  have b1 : wr.cell? ⟨w.heap.size, 1, none⟩ = some (.int .i64 cy) := (hB.cell (p := ⟨w.heap.size, 1, none⟩) hwz).trans be1
                  have heq := eqC p.r p.c z.r z.c
                  go_wp2
                  go_region_held3 (fun w' => w'.cell? ⟨ga, k * 7, none⟩ = some (.int .i64 p.r) ∧ w'.cell? ⟨ga, k * 7 + 1, none⟩ = some (.int .i64 p.c) ∧ w'.cell? ⟨ga, k * 7 + 2, none⟩ = some (.bool p.f.m) ∧ w'.cell? ⟨ga, k * 7 + 3, none⟩ = some (.int .i64 p.f.t) ∧ w'.cell? ⟨ga, k * 7 + 4, none⟩ = some (.int .i64 p.f.l) ∧ w'.cell? ⟨ga, k * 7 + 5, none⟩ = some (.int .i64 p.f.b) ∧ w'.cell? ⟨ga, k * 7 + 6, none⟩ = some (.int .i64 p.f.q) ∧ w'.cell? ⟨g, i * 2, none⟩ = some (.int .i64 z.r) ∧ w'.cell? ⟨g, i * 2 + 1, none⟩ = some (.int .i64 z.c) ∧ w'.cell? ⟨w.heap.size, 0, none⟩ = some (.int .i64 cx) ∧ w'.cell? ⟨w.heap.size, 1, none⟩ = some (.int .i64 cy)) ((repeat' apply And.intro) <;> (first | (go_keep; done) | (go_simp; done))) ((go_at_call 21; refine (HI.out _).mono ?_; rintro e wa ⟨rfl, hb⟩; have hBa : Below w5.heap.size w5 wa := bup (by with_reducible (repeat' first | assumption | exact Below.refl _ _ | refine Below.drew ?_ | refine bdrewN ?_ _ | refine Below.setCell ?_ (by first | exact Nat.le_refl _ | (simp; done) | (simp; omega) | omega) _ | refine Below.alloc ?_ (by first | exact Nat.le_refl _ | (simp; done) | (simp; omega) | omega) _)) hb; have qa0 : wa.cell? ⟨ga, k * 7, none⟩ = some (.int .i64 p.r) := (hBa.cell (p := ⟨ga, k * 7, none⟩) hga).trans e0; have qa1 : wa.cell? ⟨ga, k * 7 + 1, none⟩ = some (.int .i64 p.c) := (hBa.cell (p := ⟨ga, k * 7 + 1, none⟩) hga).trans e1; have qa2 : wa.cell? ⟨ga, k * 7 + 2, none⟩ = some (.bool p.f.m) := (hBa.cell (p := ⟨ga, k * 7 + 2, none⟩) hga).trans e2; have qa3 : wa.cell? ⟨ga, k * 7 + 3, none⟩ = some (.int .i64 p.f.t) := (hBa.cell (p := ⟨ga, k * 7 + 3, none⟩) hga).trans e3; have qa4 : wa.cell? ⟨ga, k * 7 + 4, none⟩ = some (.int .i64 p.f.l) := (hBa.cell (p := ⟨ga, k * 7 + 4, none⟩) hga).trans e4; have qa5 : wa.cell? ⟨ga, k * 7 + 5, none⟩ = some (.int .i64 p.f.b) := (hBa.cell (p := ⟨ga, k * 7 + 5, none⟩) hga).trans e5; have qa6 : wa.cell? ⟨ga, k * 7 + 6, none⟩ = some (.int .i64 p.f.q) := (hBa.cell (p := ⟨ga, k * 7 + 6, none⟩) hga).trans e6; have ca0 : wa.cell? ⟨g, i * 2, none⟩ = some (.int .i64 z.r) := (hBa.cell (p := ⟨g, i * 2, none⟩) hg).trans ce0; have ca1 : wa.cell? ⟨g, i * 2 + 1, none⟩ = some (.int .i64 z.c) := (hBa.cell (p := ⟨g, i * 2 + 1, none⟩) hg).trans ce1; have ba0 : wa.cell? ⟨w.heap.size, 0, none⟩ = some (.int .i64 cx) := (hBa.cell (p := ⟨w.heap.size, 0, none⟩) hwz).trans be0; have ba1 : wa.cell? ⟨w.heap.size, 1, none⟩ = some (.int .i64 cy) := (hBa.cell (p := ⟨w.heap.size, 1, none⟩) hwz).trans be1; clear hb))
                  cases has
                  · cases bi
                    · go_wp2
                      go_quiet (fail)
                      go_wp2
                      exact ⟨⟨k + 1, by go_num, by omega, by rw [HX.out]; rfl, by with_reducible (repeat' first | assumption | exact Below.refl _ _ | refine Below.drew ?_ | refine bdrewN ?_ _ | refine Below.setCell ?_ (by first | exact Nat.le_refl _ | (simp; done) | (simp; omega) | omega) _ | refine Below.alloc ?_ (by first | exact Nat.le_refl _ | (simp; done) | (simp; omega) | omega) _)⟩, by simp [intOf] <;> omega⟩
                    · go_wp2
                      go_quiet (fail)
                      go_wp2
                      exact ⟨⟨k + 1, by go_num, by omega, by rw [HX.out]; simp, by with_reducible (repeat' first | assumption | exact Below.refl _ _ | refine Below.drew ?_ | refine bdrewN ?_ _ | refine Below.setCell ?_ (by first | exact Nat.le_refl _ | (simp; done) | (simp; omega) | omega) _ | refine Below.alloc ?_ (by first | exact Nat.le_refl _ | (simp; done) | (simp; omega) | omega) _)⟩, by simp [intOf] <;> omega⟩
                  · go_wp2
                    go_quiet (fail)
                    go_wp2
                    exact ⟨⟨k + 1, by go_num, by omega, by rw [HX.out]; rfl, by with_reducible (repeat' first | assumption | exact Below.refl _ _ | refine Below.drew ?_ | refine bdrewN ?_ _ | refine Below.setCell ?_ (by first | exact Nat.le_refl _ | (simp; done) | (simp; omega) | omega) _ | refine Below.alloc ?_ (by first | exact Nat.le_refl _ | (simp; done) | (simp; omega) | omega) _)⟩, by simp [intOf] <;> omega⟩
                · have hlk' : ¬ (k : Int) < m := by omega
                  have hkm : k = m := by omega
                  have hh : has = true := by
                    rw [hhas, hkm, HmP.out, List.take_length]
                    exact who_has HIw.out HIe.out (List.mem_of_getElem? HZ.out)
                  subst hh
                  clear hhas hkm
                  have c0 : wr.cell? ⟨g, i * 2, none⟩ = some (.int .i64 z.r) := (hB.cell (p := ⟨g, i * 2, none⟩) hg).trans ce0
                  have c1 : wr.cell? ⟨g, i * 2 + 1, none⟩ = some (.int .i64 z.c) := (hB.cell (p := ⟨g, i * 2 + 1, none⟩) hg).trans ce1
                  by_cases i0 : i = 0
                  · subst i0
                    go_wp2
                    go_quiet (fail)
                    go_wp2
                    exact ⟨⟨1, by go_num, by omega, by with_reducible (repeat' first | assumption | exact Below.refl _ _ | refine Below.drew ?_ | refine bdrewN ?_ _ | refine Below.setCell ?_ (by first | exact Nat.le_refl _ | (simp; done) | (simp; omega) | omega) _ | refine Below.alloc ?_ (by first | exact Nat.le_refl _ | (simp; done) | (simp; omega) | omega) _)⟩, by simp [intOf] <;> omega⟩
                  · obtain ⟨j, hj⟩ : ∃ j, i = j + 1 := ⟨i - 1, by omega⟩
                    have hgt : 0 < i := by omega
                    have hgt' : (0 : Int) < (i : Int) := by omega
                    have hw : IntKind.i64.wrap ((i : Int) - 1) = (j : Int) := by rw [IntKind.wrap_i64]; omega
                    have hi0 : (((i : Int)) == 0) = false := by simp; omega
                    have hjl : j < nl := by omega
                    have hjl' : (j : Int) < nl := by omega
                    obtain ⟨g', a, hq, hg', hza, ae0, ae1⟩ := HLe.out j hjl
                    cases hq
                    have HBe : Hid (∀ W, Calls Tryz.prog 22 #[.agg #[.int .i64 a.r, .int .i64 a.c], .agg #[.int .i64 z.r, .int .i64 z.c]] W fun e w' => e = .returned (.bool true) ∧ Below W.heap.size W w') := (show _ from fun W => by
                      have q := HZ.out
                      rw [hj] at q
                      have := rbef_any a.r a.c z.r z.c W
                      rw [who_next HIw.out hza q] at this
                      exact this)
                    clear hza hj i0
                    have a0 : wr.cell? ⟨g, j * 2, none⟩ = some (.int .i64 a.r) := (hB.cell (p := ⟨g, j * 2, none⟩) hg).trans ae0
                    have a1 : wr.cell? ⟨g, j * 2 + 1, none⟩ = some (.int .i64 a.c) := (hB.cell (p := ⟨g, j * 2 + 1, none⟩) hg).trans ae1
                    go_wp2
                    go_region_held3 (fun w' => w'.cell? ⟨g, j * 2, none⟩ = some (.int .i64 a.r) ∧ w'.cell? ⟨g, j * 2 + 1, none⟩ = some (.int .i64 a.c) ∧ w'.cell? ⟨g, i * 2, none⟩ = some (.int .i64 z.r) ∧ w'.cell? ⟨g, i * 2 + 1, none⟩ = some (.int .i64 z.c)) ((repeat' apply And.intro) <;> (first | (go_keep; done) | (go_simp; done))) ((go_at_call 22; refine (HBe.out _).mono ?_; rintro e wa ⟨rfl, hb⟩; have hBa : Below w5.heap.size w5 wa := bup (by with_reducible (repeat' first | assumption | exact Below.refl _ _ | refine Below.drew ?_ | refine bdrewN ?_ _ | refine Below.setCell ?_ (by first | exact Nat.le_refl _ | (simp; done) | (simp; omega) | omega) _ | refine Below.alloc ?_ (by first | exact Nat.le_refl _ | (simp; done) | (simp; omega) | omega) _)) hb; have ca0 : wa.cell? ⟨g, i * 2, none⟩ = some (.int .i64 z.r) := (hBa.cell (p := ⟨g, i * 2, none⟩) hg).trans ce0; have ca1 : wa.cell? ⟨g, i * 2 + 1, none⟩ = some (.int .i64 z.c) := (hBa.cell (p := ⟨g, i * 2 + 1, none⟩) hg).trans ce1; have aa0 : wa.cell? ⟨g, j * 2, none⟩ = some (.int .i64 a.r) := (hBa.cell (p := ⟨g, j * 2, none⟩) hg).trans ae0; have aa1 : wa.cell? ⟨g, j * 2 + 1, none⟩ = some (.int .i64 a.c) := (hBa.cell (p := ⟨g, j * 2 + 1, none⟩) hg).trans ae1; clear hb))
                    go_wp2
                    exact ⟨⟨i + 1, by go_num, by omega, by with_reducible (repeat' first | assumption | exact Below.refl _ _ | refine Below.drew ?_ | refine bdrewN ?_ _ | refine Below.setCell ?_ (by first | exact Nat.le_refl _ | (simp; done) | (simp; omega) | omega) _ | refine Below.alloc ?_ (by first | exact Nat.le_refl _ | (simp; done) | (simp; omega) | omega) _)⟩, by simp [intOf] <;> omega⟩
            · have hlt' : ¬ (i : Int) < nl := by omega
              have hF : Below w.heap.size w wr := hG.trans (hB.mono (Nat.le_of_lt hwz))
              go_wp2_with (go_at_call 19; refine (lives_any _).mono ?_; rintro e wf ⟨rfl, q1⟩; have hBf : Below w.heap.size w wf := bup (by with_reducible (repeat' first | assumption | exact Below.refl _ _ | refine Below.drew ?_ | refine bdrewN ?_ _ | refine Below.setCell ?_ (by first | exact Nat.le_refl _ | (simp; done) | (simp; omega) | omega) _ | refine Below.alloc ?_ (by first | exact Nat.le_refl _ | (simp; done) | (simp; omega) | omega) _)) q1; clear q1)
              go_ret
              exact ⟨rfl, hBf⟩
end Go.Proofs.YtgojnijpjfdocaaGreat
