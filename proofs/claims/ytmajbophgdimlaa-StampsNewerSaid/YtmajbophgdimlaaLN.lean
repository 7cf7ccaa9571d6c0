/- StampsNewer's walk where there is a clock. -/
import Derived.Test.YtmajbophgdimlaaND
namespace Go.Proofs.Ytmajbophgdimlaa
open Go.RowKit
set_option linter.all false
set_option maxRecDepth 100000 in
set_option maxHeartbeats 40000000 in
theorem newer_good (w : World) (p : Option Addr) (l : List Op5) (n cap : Nat) (most : Int) (hn : n = l.length) (hp0 : 0 < l.length → ∃ b o, p = some ⟨b, o, none⟩ ∧ b < w.heap.size ∧ ∀ i x, l[i]? = some x → ∀ j, j < 5 → w.cell? ⟨b, o + i * 5 + j, none⟩ = (Op5.cells x)[j]?) (hcap : n ≤ cap) (hok : ∀ x ∈ l, x.ok) (hz : n ≤ 3518437208883) (hm1 : 2 ≤ most) (hm2 : most ≤ 1099511627776) : Calls Try.prog 3 #[.slice p n cap, .int .i64 most] w fun e w' => e = .returned (.bool true) ∧ Below w.heap.size w w' := by
  have mixed : Try.prog.follows .mixedOrders = true := by kernel_rfl
  have hEach := CV.each hp0
  rw [← hn] at hEach
  have HE : Hid (∀ i, i < n → ∃ (ab ao : Nat) (x : Op5), p = some ⟨ab, ao, none⟩ ∧ ab < w.heap.size ∧ l[i]? = some x ∧ ∀ j u, (Op5.cells x)[j]? = some u → w.cell? ⟨ab, ao + i * 5 + j, none⟩ = some u) := hEach
  have HOk : Hid (∀ x ∈ l, x.ok) := hok
  have H1 : Hid (∀ W, Calls Try.prog 6 #[.int .i64 most] W fun e w' => ∃ N, e = .returned (.tuple #[.pointer (some ⟨N, 0, none⟩), .int .i64 0]) ∧ Cz (fun b => b < W.heap.size) w' N most 0 0 (fun _ _ => none) 0 [] ∧ Below W.heap.size W w') := (show _ from fun W => cz_new W most hm1 hm2)
  have H2 : Hid (∀ W, Calls Try.prog 5 #[] W fun e w' => e = .returned (.bool true) ∧ Below W.heap.size W w') := lknown_any
  have HAP : Hid (ApW w.heap.size) := apW w.heap.size
  clear hEach hp0 hok hn
  go_enter Try.func3, Try.ntmps3
  go_wp2_with (first
    | (go_at_call 6; refine (H1.out _).mono ?_; rintro e wa ⟨N, rfl, q1, hb⟩; have hBa : Below w.heap.size w wa := bup (by with_reducible (repeat' first | assumption | exact Below.refl _ _ | refine Below.drew ?_ | refine bdrewN ?_ _ | refine Below.setCell ?_ (by first | exact Nat.le_refl _ | (simp; done) | (simp; omega) | omega) _ | refine Below.alloc ?_ (by first | exact Nat.le_refl _ | (simp; done) | (simp; omega) | omega) _)) hb; have HCa : Hid (Cz (fun b => b < w.heap.size) wa N most 0 0 (fun _ _ => none) 0 []) := (show Cz _ _ _ _ _ _ _ _ _ from q1.fresh (fun b q => .inl (by first | exact q | (have := hBb.size; omega)))); clear q1 hb)
    | (go_at_call 5; refine (H2.out _).mono ?_; rintro e wb ⟨rfl, hb⟩; have hBb : Below w.heap.size w wb := bup (by with_reducible (repeat' first | assumption | exact Below.refl _ _ | refine Below.drew ?_ | refine bdrewN ?_ _ | refine Below.setCell ?_ (by first | exact Nat.le_refl _ | (simp; done) | (simp; omega) | omega) _ | refine Below.alloc ?_ (by first | exact Nat.le_refl _ | (simp; done) | (simp; omega) | omega) _)) hb; clear hb))
  go_loopw [7, 8] (fun u7 u8 w' => ∃ (i : Nat) (v : Value) (l5 : List We) (T V : Int → Int → Int) (last turns : Int) (S : St) (L : List Cl), u7 = v ∧ u8 = .int .i64 i ∧ i ≤ n ∧ l5.length ≤ i ∧ Hid (Cz (Fv w.heap.size v) w' N most last turns S i L) ∧ Hid (RowW w' w.heap.size v l5) ∧ Hid (Wn S T V l5 i) ∧ Below w.heap.size w w') (fun _ u8 _ => n - (intOf u8).toNat)
  case atStart => exact ⟨0, _, [], _, _, 0, 0, _, _, rfl, rfl, by omega, by simp, (show Cz _ _ _ _ _ _ _ _ _ from (HCa.out.keep (by with_reducible (repeat' first | assumption | exact Below.refl _ _ | refine Below.drew ?_ | refine bdrewN ?_ _ | refine Below.setCell ?_ (by first | exact Nat.le_refl _ | (simp; done) | (simp; omega) | omega) _ | refine Below.alloc ?_ (by first | exact Nat.le_refl _ | (simp; done) | (simp; omega) | omega) _))).fresh (fun b q => .inl (q.elim id (fun q => by cases q)))), (show RowG _ _ _ _ _ _ _ from RowG.nil _), (show Wn _ _ _ _ _ from Wn.begin), by with_reducible (repeat' first | assumption | exact Below.refl _ _ | refine Below.drew ?_ | refine bdrewN ?_ _ | refine Below.setCell ?_ (by first | exact Nat.le_refl _ | (simp; done) | (simp; omega) | omega) _ | refine Below.alloc ?_ (by first | exact Nat.le_refl _ | (simp; done) | (simp; omega) | omega) _)⟩
  case round =>
    clear HCa hBa hBb H1 H2
    obtain ⟨i, v, l5, T, V, last, turns, S, L, rfl, rfl, hi, hl5, HC, HR, HW, hB⟩ := hrel
    obtain ⟨q0, cap5, hv5, hc5, hcm5, hq5⟩ := RowG.view We.len HR.out
    obtain ⟨m, hm⟩ : ∃ m, m = l5.length := ⟨_, rfl⟩
    rw [← hm] at hv5 hc5 hq5
    subst hv5
    have HM : Hid (m = l5.length) := hm
    have hmi : m ≤ i := by omega
    have HLl : Hid (l5.length ≤ 4000000000000) := (show _ ≤ _ from by omega)
    clear hm
    by_cases hin : i < n
    · have hin' : (i : Int) < n := by omega
      obtain ⟨ab, ao, op, rfl, hab, hx, hcl⟩ := HE.out i hin
      obtain ⟨ok0, ok1, ok2, ok3, ok4⟩ := HOk.out op (List.mem_of_getElem? hx)
      have y0 : wr.cell? ⟨ab, ao + i * 5, none⟩ = some (.int .i64 op.k) := (hB.cell (p := ⟨ab, ao + i * 5, none⟩) hab).trans (hcl 0 _ rfl)
      have y1 : wr.cell? ⟨ab, ao + i * 5 + 1, none⟩ = some (.int .i64 op.r) := (hB.cell (p := ⟨ab, ao + i * 5 + 1, none⟩) hab).trans (hcl 1 _ rfl)
      have y2 : wr.cell? ⟨ab, ao + i * 5 + 2, none⟩ = some (.int .i64 op.c) := (hB.cell (p := ⟨ab, ao + i * 5 + 2, none⟩) hab).trans (hcl 2 _ rfl)
      have y3 : wr.cell? ⟨ab, ao + i * 5 + 3, none⟩ = some (.int .i64 op.r2) := (hB.cell (p := ⟨ab, ao + i * 5 + 3, none⟩) hab).trans (hcl 3 _ rfl)
      have y4 : wr.cell? ⟨ab, ao + i * 5 + 4, none⟩ = some (.int .i64 op.c2) := (hB.cell (p := ⟨ab, ao + i * 5 + 4, none⟩) hab).trans (hcl 4 _ rfl)
      have z := hB.size
      have labr : ab < wr.heap.size := by omega
      have hni : n < 9223372036854775807 := by omega
      have hwr : IntKind.i64.wrap ((i : Int) + 1) = (i : Int) + 1 := by rw [IntKind.wrap_i64]; omega
      have hwm : IntKind.i64.wrap (most - 1) = most - 1 := by rw [IntKind.wrap_i64]; omega
      clear hx hcl
      by_cases hk0 : op.k = 0
      · cases hmy : mayC op.r op.c with
        | false =>
          have HMY : Hid (mayC op.r op.c = false) := hmy
          have HMy : Hid (∀ W, Calls Try.prog 8 #[.agg #[.int .i64 op.r, .int .i64 op.c]] W fun e w' => e = .returned (.bool false) ∧ Below W.heap.size W w') := (show _ from fun W => by have := rmay_any op.r op.c W; rw [hmy] at this; exact this)
          clear hmy hq5
          go_wp2_with (first
                              | (go_at_call 7; refine (lat_any _ _ _ _ _ _ (HR.out.keep (by with_reducible (repeat' first | assumption | exact Below.refl _ _ | refine Below.drew ?_ | refine bdrewN ?_ _ | refine Below.setCell ?_ (by first | exact Nat.le_refl _ | (simp; done) | (simp; omega) | omega) _ | refine Below.alloc ?_ (by first | exact Nat.le_refl _ | (simp; done) | (simp; omega) | omega) _))) HLl.out).mono ?_; rintro e w1 ⟨p, rfl, _, hb⟩; have hB1 : Below w.heap.size w w1 := bup (by with_reducible (repeat' first | assumption | exact Below.refl _ _ | refine Below.drew ?_ | refine bdrewN ?_ _ | refine Below.setCell ?_ (by first | exact Nat.le_refl _ | (simp; done) | (simp; omega) | omega) _ | refine Below.alloc ?_ (by first | exact Nat.le_refl _ | (simp; done) | (simp; omega) | omega) _)) hb; have hR1 : Below wr.heap.size wr w1 := bup (by with_reducible (repeat' first | assumption | exact Below.refl _ _ | refine Below.drew ?_ | refine bdrewN ?_ _ | refine Below.setCell ?_ (by first | exact Nat.le_refl _ | (simp; done) | (simp; omega) | omega) _ | refine Below.alloc ?_ (by first | exact Nat.le_refl _ | (simp; done) | (simp; omega) | omega) _)) hb; have oX1 : Own w1 wr.heap.size #[.int .i64 0, .int .i64 op.r, .int .i64 op.c, .int .i64 op.r2, .int .i64 op.c2] := Own.keep (by with_reducible (repeat' first | assumption | refine Own.drew ?_ | refine Own.drewN ?_ _ | (refine Own.at ?_; first | rfl | (simp; done)) | refine Own.past ?_ _)) hb; have x10 : w1.cell? ⟨wr.heap.size, 0, none⟩ = some (.int .i64 0) := oX1.cell 0; have x11 : w1.cell? ⟨wr.heap.size, 1, none⟩ = some (.int .i64 op.r) := oX1.cell 1; have x12 : w1.cell? ⟨wr.heap.size, 2, none⟩ = some (.int .i64 op.c) := oX1.cell 2; have lX1 := oX1.lt; clear hb)
                              | (go_at_call 8; refine (HMy.out _).mono ?_; rintro e w2 ⟨rfl, hb⟩; have hB2 : Below w.heap.size w w2 := bup (by with_reducible (repeat' first | assumption | exact Below.refl _ _ | refine Below.drew ?_ | refine bdrewN ?_ _ | refine Below.setCell ?_ (by first | exact Nat.le_refl _ | (simp; done) | (simp; omega) | omega) _ | refine Below.alloc ?_ (by first | exact Nat.le_refl _ | (simp; done) | (simp; omega) | omega) _)) hb; have hR2 : Below wr.heap.size wr w2 := bup (by with_reducible (repeat' first | assumption | exact Below.refl _ _ | refine Below.drew ?_ | refine bdrewN ?_ _ | refine Below.setCell ?_ (by first | exact Nat.le_refl _ | (simp; done) | (simp; omega) | omega) _ | refine Below.alloc ?_ (by first | exact Nat.le_refl _ | (simp; done) | (simp; omega) | omega) _)) hb; have oX2 : Own w2 wr.heap.size #[.int .i64 0, .int .i64 op.r, .int .i64 op.c, .int .i64 op.r2, .int .i64 op.c2] := Own.keep (by with_reducible (repeat' first | assumption | refine Own.drew ?_ | refine Own.drewN ?_ _ | (refine Own.at ?_; first | rfl | (simp; done)) | refine Own.past ?_ _)) hb; have x20 : w2.cell? ⟨wr.heap.size, 0, none⟩ = some (.int .i64 0) := oX2.cell 0; have x21 : w2.cell? ⟨wr.heap.size, 1, none⟩ = some (.int .i64 op.r) := oX2.cell 1; have x22 : w2.cell? ⟨wr.heap.size, 2, none⟩ = some (.int .i64 op.c) := oX2.cell 2; have lX2 := oX2.lt; have HX2 : Hid (Nx w.heap.size w2 N most last turns S i L (.slice q0 m cap5) l5 wr.heap.size #[.int .i64 0, .int .i64 op.r, .int .i64 op.c, .int .i64 op.r2, .int .i64 op.c2]) := (show Nx _ _ _ _ _ _ _ _ _ _ _ _ _ from Nx.begin HC.out HR.out hR2 oX2 (Nat.le_refl _) (by omega)); clear hb)
                              | (go_at_call 10; refine (nx_change (HX2.out.keep (by with_reducible (repeat' first | assumption | exact Below.refl _ _ | refine Below.drew ?_ | refine bdrewN ?_ _ | refine Below.setCell ?_ (by first | exact Nat.le_refl _ | (simp; done) | (simp; omega) | omega) _ | refine Below.alloc ?_ (by first | exact Nat.le_refl _ | (simp; done) | (simp; omega) | omega) _))) (by omega) op.r op.c ok1 ok2 ⟨hm1, hm2⟩ (by omega)).mono ?_; rintro e w3 ⟨code, la, tu, S3, rfl, q1, q2, q3⟩; obtain ⟨rfl, rfl⟩ : code = 3 ∧ S3 = S := (by rcases q3 with ⟨k1, _, k2⟩ | ⟨_, k1, _⟩ | ⟨_, k1, _⟩; exact ⟨k1, k2⟩; exact absurd (HMY.out.symm.trans k1) (by simp); exact absurd (HMY.out.symm.trans k1) (by simp)); have HX3 : Hid (Nx w.heap.size w3 N most la tu S3 (i + 1) (⟨op.r, op.c⟩ :: L) (.slice q0 m cap5) l5 wr.heap.size #[.int .i64 0, .int .i64 op.r, .int .i64 op.c, .int .i64 op.r2, .int .i64 op.c2]) := q1; have hB3 : Below w.heap.size w w3 := (show Below w.heap.size w _ from by with_reducible (repeat' first | assumption | exact Below.refl _ _ | refine Below.drew ?_ | refine bdrewN ?_ _ | refine Below.setCell ?_ (by first | exact Nat.le_refl _ | (simp; done) | (simp; omega) | omega) _ | refine Below.alloc ?_ (by first | exact Nat.le_refl _ | (simp; done) | (simp; omega) | omega) _)).trans q2; have z3 := hB3.size; clear q1 q2 q3))
          exact ⟨⟨i + 1, (.slice q0 m cap5), l5, T, V, la, tu, S3, (⟨op.r, op.c⟩ :: L), rfl, by go_num, by omega, by first | omega | (simp; omega), (show Cz _ _ _ _ _ _ _ _ _ from (HX3.out.czF).keep (by with_reducible (repeat' first | assumption | exact Below.refl _ _ | refine Below.drew ?_ | refine bdrewN ?_ _ | refine Below.setCell ?_ (by first | exact Nat.le_refl _ | (simp; done) | (simp; omega) | omega) _ | refine Below.alloc ?_ (by first | exact Nat.le_refl _ | (simp; done) | (simp; omega) | omega) _))), (show RowG _ _ _ _ _ _ _ from (HX3.out.row).keep (by with_reducible (repeat' first | assumption | exact Below.refl _ _ | refine Below.drew ?_ | refine bdrewN ?_ _ | refine Below.setCell ?_ (by first | exact Nat.le_refl _ | (simp; done) | (simp; omega) | omega) _ | refine Below.alloc ?_ (by first | exact Nat.le_refl _ | (simp; done) | (simp; omega) | omega) _))), (show Wn _ _ _ _ _ from HW.out.more), by with_reducible (repeat' first | assumption | exact Below.refl _ _ | refine Below.drew ?_ | refine bdrewN ?_ _ | refine Below.setCell ?_ (by first | exact Nat.le_refl _ | (simp; done) | (simp; omega) | omega) _ | refine Below.alloc ?_ (by first | exact Nat.le_refl _ | (simp; done) | (simp; omega) | omega) _)⟩, by simp [intOf]; omega⟩
        | true =>
          have HMY : Hid (mayC op.r op.c = true) := hmy
          have HMy : Hid (∀ W, Calls Try.prog 8 #[.agg #[.int .i64 op.r, .int .i64 op.c]] W fun e w' => e = .returned (.bool true) ∧ Below W.heap.size W w') := (show _ from fun W => by have := rmay_any op.r op.c W; rw [hmy] at this; exact this)
          clear hmy
          by_cases hio : ∀ e ∈ l5, ¬ (e.r = op.r ∧ e.c = op.c)
          · as_aux_lemma =>
              have HOUT : Hid (∀ e ∈ l5, ¬ (e.r = op.r ∧ e.c = op.c)) := hio
              clear hio hq5
              go_wp2_with (first
                              | (go_at_call 7; refine (lat_out _ _ _ _ _ _ (HR.out.keep (by with_reducible (repeat' first | assumption | exact Below.refl _ _ | refine Below.drew ?_ | refine bdrewN ?_ _ | refine Below.setCell ?_ (by first | exact Nat.le_refl _ | (simp; done) | (simp; omega) | omega) _ | refine Below.alloc ?_ (by first | exact Nat.le_refl _ | (simp; done) | (simp; omega) | omega) _))) HLl.out HOUT.out).mono ?_; rintro e w1 ⟨rfl, hb⟩; rw [← HM.out]; have hB1 : Below w.heap.size w w1 := bup (by with_reducible (repeat' first | assumption | exact Below.refl _ _ | refine Below.drew ?_ | refine bdrewN ?_ _ | refine Below.setCell ?_ (by first | exact Nat.le_refl _ | (simp; done) | (simp; omega) | omega) _ | refine Below.alloc ?_ (by first | exact Nat.le_refl _ | (simp; done) | (simp; omega) | omega) _)) hb; have hR1 : Below wr.heap.size wr w1 := bup (by with_reducible (repeat' first | assumption | exact Below.refl _ _ | refine Below.drew ?_ | refine bdrewN ?_ _ | refine Below.setCell ?_ (by first | exact Nat.le_refl _ | (simp; done) | (simp; omega) | omega) _ | refine Below.alloc ?_ (by first | exact Nat.le_refl _ | (simp; done) | (simp; omega) | omega) _)) hb; have oX1 : Own w1 wr.heap.size #[.int .i64 0, .int .i64 op.r, .int .i64 op.c, .int .i64 op.r2, .int .i64 op.c2] := Own.keep (by with_reducible (repeat' first | assumption | refine Own.drew ?_ | refine Own.drewN ?_ _ | (refine Own.at ?_; first | rfl | (simp; done)) | refine Own.past ?_ _)) hb; have x10 : w1.cell? ⟨wr.heap.size, 0, none⟩ = some (.int .i64 0) := oX1.cell 0; have x11 : w1.cell? ⟨wr.heap.size, 1, none⟩ = some (.int .i64 op.r) := oX1.cell 1; have x12 : w1.cell? ⟨wr.heap.size, 2, none⟩ = some (.int .i64 op.c) := oX1.cell 2; have lX1 := oX1.lt; clear hb)
                              | (go_at_call 8; refine (HMy.out _).mono ?_; rintro e w2 ⟨rfl, hb⟩; have hB2 : Below w.heap.size w w2 := bup (by with_reducible (repeat' first | assumption | exact Below.refl _ _ | refine Below.drew ?_ | refine bdrewN ?_ _ | refine Below.setCell ?_ (by first | exact Nat.le_refl _ | (simp; done) | (simp; omega) | omega) _ | refine Below.alloc ?_ (by first | exact Nat.le_refl _ | (simp; done) | (simp; omega) | omega) _)) hb; have hR2 : Below wr.heap.size wr w2 := bup (by with_reducible (repeat' first | assumption | exact Below.refl _ _ | refine Below.drew ?_ | refine bdrewN ?_ _ | refine Below.setCell ?_ (by first | exact Nat.le_refl _ | (simp; done) | (simp; omega) | omega) _ | refine Below.alloc ?_ (by first | exact Nat.le_refl _ | (simp; done) | (simp; omega) | omega) _)) hb; have oX2 : Own w2 wr.heap.size #[.int .i64 0, .int .i64 op.r, .int .i64 op.c, .int .i64 op.r2, .int .i64 op.c2] := Own.keep (by with_reducible (repeat' first | assumption | refine Own.drew ?_ | refine Own.drewN ?_ _ | (refine Own.at ?_; first | rfl | (simp; done)) | refine Own.past ?_ _)) hb; have x20 : w2.cell? ⟨wr.heap.size, 0, none⟩ = some (.int .i64 0) := oX2.cell 0; have x21 : w2.cell? ⟨wr.heap.size, 1, none⟩ = some (.int .i64 op.r) := oX2.cell 1; have x22 : w2.cell? ⟨wr.heap.size, 2, none⟩ = some (.int .i64 op.c) := oX2.cell 2; have lX2 := oX2.lt; have HX2 : Hid (Nx w.heap.size w2 N most last turns S i L (.slice q0 m cap5) l5 wr.heap.size #[.int .i64 0, .int .i64 op.r, .int .i64 op.c, .int .i64 op.r2, .int .i64 op.c2]) := (show Nx _ _ _ _ _ _ _ _ _ _ _ _ _ from Nx.begin HC.out HR.out hR2 oX2 (Nat.le_refl _) (by omega)); clear hb))
              go_at_call 10
              refine (nx_change HX2.out (by omega) op.r op.c ok1 ok2 ⟨hm1, hm2⟩ (by omega)).mono ?_
              rintro e w3 ⟨code, la, tu, S3, rfl, q1, q2, q3⟩
              have HX3 : Hid (Nx w.heap.size w3 N most la tu S3 (i + 1) (⟨op.r, op.c⟩ :: L) (.slice q0 m cap5) l5 wr.heap.size #[.int .i64 0, .int .i64 op.r, .int .i64 op.c, .int .i64 op.r2, .int .i64 op.c2]) := q1
              have hB3 : Below w.heap.size w w3 := hB2.trans q2
              have z3 := hB3.size
              have oX3 := HX3.out.own
              have x30 : w3.cell? ⟨wr.heap.size, 0, none⟩ = some (.int .i64 0) := oX3.cell 0; have x31 : w3.cell? ⟨wr.heap.size, 1, none⟩ = some (.int .i64 op.r) := oX3.cell 1; have x32 : w3.cell? ⟨wr.heap.size, 2, none⟩ = some (.int .i64 op.c) := oX3.cell 2
              have lX3 := oX3.lt
              clear q1 q2
              rcases q3 with ⟨_, q, _⟩ | ⟨rfl, _, rfl, lo, k1, k2⟩ | ⟨rfl, _, k1⟩
              · exact absurd (HMY.out.symm.trans q) (by simp)
              · have hle : most - 1 ≤ m := by
                  have := HW.out.oth HX2.out.cz.dom k1
                  have := HM.out
                  omega
                clear k1 k2
                go_wp2
                go_ret
                exact ⟨rfl, by with_reducible (repeat' first | assumption | exact Below.refl _ _ | refine Below.drew ?_ | refine bdrewN ?_ _ | refine Below.setCell ?_ (by first | exact Nat.le_refl _ | (simp; done) | (simp; omega) | omega) _ | refine Below.alloc ?_ (by first | exact Nat.le_refl _ | (simp; done) | (simp; omega) | omega) _)⟩
              · have HNw : Hid (Nw S S3 op.r op.c) := k1
                clear k1
                go_wp2_with (go_loud (at_builtin; refine wpList_appx rfl _ _ _ _ rfl _ (.slice (some ⟨w3.heap.size, 0, none⟩) 1 1) rfl rfl (HAP.out _ _ _ w3.heap.size ⟨op.r, op.c, 0, 0⟩ (RowG.keep HX3.out.row (by with_reducible (repeat' first | assumption | exact Below.refl _ _ | refine Below.drew ?_ | refine bdrewN ?_ _ | refine Below.setCell ?_ (by first | exact Nat.le_refl _ | (simp; done) | (simp; omega) | omega) _ | refine Below.alloc ?_ (by first | exact Nat.le_refl _ | (simp; done) | (simp; omega) | omega) _))) (heap_at (by simp)) (by simp; omega) HLl.out) (fun v' w4 hq => ?_); obtain ⟨r1, r2, r3, r4⟩ := hq; obtain ⟨g, cap7, rfl, hc7, hc7'⟩ := row_some r1; rw [← HM.out] at r1 r3 hc7 ⊢; have HX4 : Hid (Nx w.heap.size w4 N most la tu S3 (i + 1) (⟨op.r, op.c⟩ :: L) (.slice (some ⟨g, 0, none⟩) (m + 1) cap7) (l5 ++ [⟨op.r, op.c, 0, 0⟩]) wr.heap.size #[.int .i64 0, .int .i64 op.r, .int .i64 op.c, .int .i64 op.r2, .int .i64 op.c2]) := (show Nx _ _ _ _ _ _ _ _ _ _ _ _ _ from (HX3.out.keep (by with_reducible (repeat' first | assumption | exact Below.refl _ _ | refine Below.drew ?_ | refine bdrewN ?_ _ | refine Below.setCell ?_ (by first | exact Nat.le_refl _ | (simp; done) | (simp; omega) | omega) _ | refine Below.alloc ?_ (by first | exact Nat.le_refl _ | (simp; done) | (simp; omega) | omega) _))).app r1 r3 r4); have hB4 : Below w.heap.size w w4 := (show Below w.heap.size w _ from by with_reducible (repeat' first | assumption | exact Below.refl _ _ | refine Below.drew ?_ | refine bdrewN ?_ _ | refine Below.setCell ?_ (by first | exact Nat.le_refl _ | (simp; done) | (simp; omega) | omega) _ | refine Below.alloc ?_ (by first | exact Nat.le_refl _ | (simp; done) | (simp; omega) | omega) _)).trans r2; have z4 := hB4.size; have oX4 := HX4.out.own; have x40 : w4.cell? ⟨wr.heap.size, 0, none⟩ = some (.int .i64 0) := oX4.cell 0; have x41 : w4.cell? ⟨wr.heap.size, 1, none⟩ = some (.int .i64 op.r) := oX4.cell 1; have x42 : w4.cell? ⟨wr.heap.size, 2, none⟩ = some (.int .i64 op.c) := oX4.cell 2; have lX4 := oX4.lt; have HF : Hid ((l5 ++ [(⟨op.r, op.c, 0, 0⟩ : We)])[m]? = some ⟨op.r, op.c, 0, 0⟩) := (show _ = _ from by rw [HM.out]; simp); have gj : w4.cell? ⟨g, m * 4 + 2, none⟩ = some (.int .i64 0) := row_at HX4.out.row HF.out 2 _ rfl; have gf : w4.frozen? ⟨g, m * 4 + 2, none⟩ = false := row_fro HX4.out.row _; have lg : g < w4.heap.size := (HX4.out.row.lt g rfl).2; clear r1 r2 r3 r4))
                obtain ⟨W5, hW5⟩ : ∃ W5 : World, W5 = w4.setCell ⟨g, m * 4 + 2, none⟩ (.int .i64 ((i : Int) + 1)) := ⟨_, rfl⟩
                obtain ⟨q6, m6, cap6, hv6, l6, T6, V6, la6, tu6, S6, L6, hl6, HC5, HR5, HW5⟩ : ∃ (q6 : Option Addr) (m6 cap6 : Nat), Value.slice (some ⟨g, 0, none⟩) (m + 1) cap7 = .slice q6 m6 cap6 ∧ ∃ (l6 : List We) (T6 V6 : Int → Int → Int) (la6 tu6 : Int) (S6 : St) (L6 : List Cl), l6.length ≤ i + 1 ∧ Hid (Cz (Fv w.heap.size (.slice q6 m6 cap6)) W5 N most la6 tu6 S6 (i + 1) L6) ∧ Hid (RowW W5 w.heap.size (.slice q6 m6 cap6) l6) ∧ Hid (Wn S6 T6 V6 l6 ((i : Int) + 1)) := ⟨(some ⟨g, 0, none⟩), (m + 1), cap7, rfl, ((l5 ++ [(⟨op.r, op.c, 0, 0⟩ : We)]).set m (⟨(⟨op.r, op.c, 0, 0⟩ : We).r, (⟨op.r, op.c, 0, 0⟩ : We).c, (i : Int) + 1, (⟨op.r, op.c, 0, 0⟩ : We).v⟩ : We)), (upI T op.r op.c ((i : Int) + 1)), V, la, tu, S3, (⟨op.r, op.c⟩ :: L), (by first | omega | (simp; omega)), (show Cz _ _ _ _ _ _ _ _ _ from by rw [hW5]; exact (HX4.out.put (e' := (⟨(⟨op.r, op.c, 0, 0⟩ : We).r, (⟨op.r, op.c, 0, 0⟩ : We).c, (i : Int) + 1, (⟨op.r, op.c, 0, 0⟩ : We).v⟩ : We)) (j := 2) (u := (.int .i64 ((i : Int) + 1))) HF.out (by decide) rfl).czF), (show RowG _ _ _ _ _ _ _ from by rw [hW5]; exact (HX4.out.put (e' := (⟨(⟨op.r, op.c, 0, 0⟩ : We).r, (⟨op.r, op.c, 0, 0⟩ : We).c, (i : Int) + 1, (⟨op.r, op.c, 0, 0⟩ : We).v⟩ : We)) (j := 2) (u := (.int .i64 ((i : Int) + 1))) HF.out (by decide) rfl).row), (show Wn _ _ _ _ _ from ((HW.out.app ok1 ok2 HOUT.out)).ch HNw.out HMY.out HF.out rfl rfl)⟩
                have hB5 : Below w.heap.size w W5 := (by rw [hW5]; exact hB4.trans (HX4.out.putB (.int .i64 ((i : Int) + 1))))
                rw [hv6, ← hW5]
                clear hW5 hv6
                clear HX2 HC HR HW HMy
                obtain ⟨hml, hmc, hmc2, hq5⟩ := row_q HR5.out
                have HQ5 : Hid _ := hq5
                have HL6 : Hid (m6 = l6.length) := hml
                have b5 : Below W5.heap.size W5 W5 := Below.refl _ _
                have z5 := hB5.size
                clear hq5 hml
                go_loopw [13] (fun u w' => ∃ a : Nat, u = .int .i64 a ∧ a ≤ m6 ∧ Below W5.heap.size W5 w') (fun u _ => m6 - (intOf u).toNat)
                case atStart => exact ⟨0, rfl, by omega, b5⟩
                case round =>
                  clear b5
                  obtain ⟨a, rfl, ha, hB6⟩ := hrel
                  have z6 := hB6.size
                  by_cases ham : a < m6
                  · have ham' : (a : Int) < m6 := by omega
                    go_wp2
                    go_loopw [14] (fun u w' => ∃ b : Nat, u = .int .i64 b ∧ b ≤ m6 ∧ Below W5.heap.size W5 w') (fun u _ => m6 - (intOf u).toNat)
                    case atStart => exact ⟨0, rfl, by omega, by with_reducible (repeat' first | assumption | exact Below.refl _ _ | refine Below.drew ?_ | refine bdrewN ?_ _ | refine Below.setCell ?_ (by first | exact Nat.le_refl _ | (simp; done) | (simp; omega) | omega) _ | refine Below.alloc ?_ (by first | exact Nat.le_refl _ | (simp; done) | (simp; omega) | omega) _)⟩
                    case round =>
                      clear hB6 z6
                      obtain ⟨b, rfl, hb, hB7⟩ := hrel
                      have z7 := hB7.size
                      by_cases hbm : b < m6
                      · have hbm' : (b : Int) < m6 := by omega
                        obtain ⟨e, he⟩ : ∃ e, l6[a]? = some e := ⟨_, List.getElem?_eq_getElem (by have := HL6.out; omega)⟩
                        obtain ⟨f, hf⟩ : ∃ f, l6[b]? = some f := ⟨_, List.getElem?_eq_getElem (by have := HL6.out; omega)⟩
                        obtain ⟨g, rfl, hg, hcl⟩ := HQ5.out (by omega)
                        have e0 : wr.cell? ⟨g, a * 4, none⟩ = some (.int .i64 e.r) := (hB7.cell (p := ⟨g, a * 4, none⟩) hg).trans (hcl a e he 0 _ rfl)
                        have e1 : wr.cell? ⟨g, a * 4 + 1, none⟩ = some (.int .i64 e.c) := (hB7.cell (p := ⟨g, a * 4 + 1, none⟩) hg).trans (hcl a e he 1 _ rfl)
                        have e2 : wr.cell? ⟨g, a * 4 + 2, none⟩ = some (.int .i64 e.t) := (hB7.cell (p := ⟨g, a * 4 + 2, none⟩) hg).trans (hcl a e he 2 _ rfl)
                        have f0 : wr.cell? ⟨g, b * 4, none⟩ = some (.int .i64 f.r) := (hB7.cell (p := ⟨g, b * 4, none⟩) hg).trans (hcl b f hf 0 _ rfl)
                        have f1 : wr.cell? ⟨g, b * 4 + 1, none⟩ = some (.int .i64 f.c) := (hB7.cell (p := ⟨g, b * 4 + 1, none⟩) hg).trans (hcl b f hf 1 _ rfl)
                        have f3 : wr.cell? ⟨g, b * 4 + 3, none⟩ = some (.int .i64 f.v) := (hB7.cell (p := ⟨g, b * 4 + 3, none⟩) hg).trans (hcl b f hf 3 _ rfl)
                        have lg : g < wr.heap.size := by omega
                        have HDC : Hid (∀ W, Below W5.heap.size W5 W → Calls Try.prog 12 #[.pointer (some ⟨N, 0, none⟩), .agg #[.int .i64 e.r, .int .i64 e.c], .agg #[.int .i64 f.r, .int .i64 f.c]] W fun e' w' => e' = .returned (.bool (decide (f.v < e.t))) ∧ Below W.heap.size W w') := (show _ from fun W h1 => (cz_newer (HC5.out.keep h1) e.r e.c f.r f.c (HW5.out.i64 e (List.mem_of_getElem? he)).1 (HW5.out.i64 e (List.mem_of_getElem? he)).2 (HW5.out.i64 f (List.mem_of_getElem? hf)).1 (HW5.out.i64 f (List.mem_of_getElem? hf)).2).mono (fun e' w' q => by rw [dec_newer HW5.out he hf] at q; exact q))
                        clear hcl he hf
                        by_cases h12 : (a : Int) < 12
                        · have d12 : decide ((a : Int) < 12) = true := decide_eq_true h12
                          by_cases h13 : (b : Int) < 12
                          · have d13 : decide ((b : Int) < 12) = true := decide_eq_true h13
                            go_wp2
                            refine wp_region_held_drew (S := (fun w' => w'.cell? ⟨g, a * 4, none⟩ = some (.int .i64 e.r) ∧ w'.cell? ⟨g, a * 4 + 1, none⟩ = some (.int .i64 e.c) ∧ w'.cell? ⟨g, a * 4 + 2, none⟩ = some (.int .i64 e.t) ∧ w'.cell? ⟨g, b * 4, none⟩ = some (.int .i64 f.r) ∧ w'.cell? ⟨g, b * 4 + 1, none⟩ = some (.int .i64 f.c) ∧ w'.cell? ⟨g, b * 4 + 3, none⟩ = some (.int .i64 f.v))) (by kernel_rfl) (by (try dsimp only); ((repeat' apply And.intro) <;> (first | (go_keep; done) | (go_simp; done)))) (fun hHeld => ?_)
                            refine tkT 0 (.int .i64 a) rfl ?_
                            (try simp only [Act.put, List.getElem_toArray, List.getElem_cons_succ, List.getElem_cons_zero, List.setIfInBounds_toArray, List.set_cons_zero, List.set_cons_succ])
                            refine tkT 1 (.bool true) rfl ?_
                            (try simp only [Act.put, List.getElem_toArray, List.getElem_cons_succ, List.getElem_cons_zero, List.setIfInBounds_toArray, List.set_cons_zero, List.set_cons_succ])
                            refine tkT 2 (.bool true) rfl ?_
                            (try simp only [Act.put, List.getElem_toArray, List.getElem_cons_succ, List.getElem_cons_zero, List.setIfInBounds_toArray, List.set_cons_zero, List.set_cons_succ])
                            refine tkT 3 (.int .i64 b) rfl ?_
                            (try simp only [Act.put, List.getElem_toArray, List.getElem_cons_succ, List.getElem_cons_zero, List.setIfInBounds_toArray, List.set_cons_zero, List.set_cons_succ])
                            refine tkT 4 (.bool true) rfl ?_
                            (try simp only [Act.put, List.getElem_toArray, List.getElem_cons_succ, List.getElem_cons_zero, List.setIfInBounds_toArray, List.set_cons_zero, List.set_cons_succ])
                            refine tkT 5 (.bool true) rfl ?_
                            (try simp only [Act.put, List.getElem_toArray, List.getElem_cons_succ, List.getElem_cons_zero, List.setIfInBounds_toArray, List.set_cons_zero, List.set_cons_succ])
                            refine tkT 6 (.bool true) rfl ?_
                            (try simp only [Act.put, List.getElem_toArray, List.getElem_cons_succ, List.getElem_cons_zero, List.setIfInBounds_toArray, List.set_cons_zero, List.set_cons_succ])
                            refine tkT 7 (.pointer (some ⟨N, 0, none⟩)) rfl ?_
                            (try simp only [Act.put, List.getElem_toArray, List.getElem_cons_succ, List.getElem_cons_zero, List.setIfInBounds_toArray, List.set_cons_zero, List.set_cons_succ])
                            refine tkT 8 (.slice (some ⟨g, 0, none⟩) m6 cap6) rfl ?_
                            (try simp only [Act.put, List.getElem_toArray, List.getElem_cons_succ, List.getElem_cons_zero, List.setIfInBounds_toArray, List.set_cons_zero, List.set_cons_succ])
                            refine tkT 9 (.int .i64 a) rfl ?_
                            (try simp only [Act.put, List.getElem_toArray, List.getElem_cons_succ, List.getElem_cons_zero, List.setIfInBounds_toArray, List.set_cons_zero, List.set_cons_succ])
                            refine tkT 10 (.pointer (some ⟨g, a * 4, none⟩)) rfl ?_
                            (try simp only [Act.put, List.getElem_toArray, List.getElem_cons_succ, List.getElem_cons_zero, List.setIfInBounds_toArray, List.set_cons_zero, List.set_cons_succ])
                            refine tkT 11 (.pointer (some ⟨g, a * 4, none⟩)) rfl ?_
                            (try simp only [Act.put, List.getElem_toArray, List.getElem_cons_succ, List.getElem_cons_zero, List.setIfInBounds_toArray, List.set_cons_zero, List.set_cons_succ])
                            refine tkT 12 (.agg #[.int .i64 e.r, .int .i64 e.c]) rfl ?_
                            (try simp only [Act.put, List.getElem_toArray, List.getElem_cons_succ, List.getElem_cons_zero, List.setIfInBounds_toArray, List.set_cons_zero, List.set_cons_succ])
                            refine tkT 13 (.slice (some ⟨g, 0, none⟩) m6 cap6) rfl ?_
                            (try simp only [Act.put, List.getElem_toArray, List.getElem_cons_succ, List.getElem_cons_zero, List.setIfInBounds_toArray, List.set_cons_zero, List.set_cons_succ])
                            refine tkT 14 (.int .i64 b) rfl ?_
                            (try simp only [Act.put, List.getElem_toArray, List.getElem_cons_succ, List.getElem_cons_zero, List.setIfInBounds_toArray, List.set_cons_zero, List.set_cons_succ])
                            refine tkT 15 (.pointer (some ⟨g, b * 4, none⟩)) rfl ?_
                            (try simp only [Act.put, List.getElem_toArray, List.getElem_cons_succ, List.getElem_cons_zero, List.setIfInBounds_toArray, List.set_cons_zero, List.set_cons_succ])
                            refine tkT 16 (.pointer (some ⟨g, b * 4, none⟩)) rfl ?_
                            (try simp only [Act.put, List.getElem_toArray, List.getElem_cons_succ, List.getElem_cons_zero, List.setIfInBounds_toArray, List.set_cons_zero, List.set_cons_succ])
                            refine tkT 17 (.agg #[.int .i64 f.r, .int .i64 f.c]) rfl ?_
                            (try simp only [Act.put, List.getElem_toArray, List.getElem_cons_succ, List.getElem_cons_zero, List.setIfInBounds_toArray, List.set_cons_zero, List.set_cons_succ])
                            refine tkT 19 (.slice (some ⟨g, 0, none⟩) m6 cap6) rfl ?_
                            (try simp only [Act.put, List.getElem_toArray, List.getElem_cons_succ, List.getElem_cons_zero, List.setIfInBounds_toArray, List.set_cons_zero, List.set_cons_succ])
                            refine tkT 20 (.int .i64 a) rfl ?_
                            (try simp only [Act.put, List.getElem_toArray, List.getElem_cons_succ, List.getElem_cons_zero, List.setIfInBounds_toArray, List.set_cons_zero, List.set_cons_succ])
                            refine tkT 21 (.pointer (some ⟨g, a * 4, none⟩)) rfl ?_
                            (try simp only [Act.put, List.getElem_toArray, List.getElem_cons_succ, List.getElem_cons_zero, List.setIfInBounds_toArray, List.set_cons_zero, List.set_cons_succ])
                            refine tkT 22 (.pointer (some ⟨g, a * 4 + 2, none⟩)) rfl ?_
                            (try simp only [Act.put, List.getElem_toArray, List.getElem_cons_succ, List.getElem_cons_zero, List.setIfInBounds_toArray, List.set_cons_zero, List.set_cons_succ])
                            refine tkT 23 (.int .i64 e.t) rfl ?_
                            (try simp only [Act.put, List.getElem_toArray, List.getElem_cons_succ, List.getElem_cons_zero, List.setIfInBounds_toArray, List.set_cons_zero, List.set_cons_succ])
                            refine tkT 24 (.slice (some ⟨g, 0, none⟩) m6 cap6) rfl ?_
                            (try simp only [Act.put, List.getElem_toArray, List.getElem_cons_succ, List.getElem_cons_zero, List.setIfInBounds_toArray, List.set_cons_zero, List.set_cons_succ])
                            refine tkT 25 (.int .i64 b) rfl ?_
                            (try simp only [Act.put, List.getElem_toArray, List.getElem_cons_succ, List.getElem_cons_zero, List.setIfInBounds_toArray, List.set_cons_zero, List.set_cons_succ])
                            refine tkT 26 (.pointer (some ⟨g, b * 4, none⟩)) rfl ?_
                            (try simp only [Act.put, List.getElem_toArray, List.getElem_cons_succ, List.getElem_cons_zero, List.setIfInBounds_toArray, List.set_cons_zero, List.set_cons_succ])
                            refine tkT 27 (.pointer (some ⟨g, b * 4 + 3, none⟩)) rfl ?_
                            (try simp only [Act.put, List.getElem_toArray, List.getElem_cons_succ, List.getElem_cons_zero, List.setIfInBounds_toArray, List.set_cons_zero, List.set_cons_succ])
                            refine tkT 28 (.int .i64 f.v) rfl ?_
                            (try simp only [Act.put, List.getElem_toArray, List.getElem_cons_succ, List.getElem_cons_zero, List.setIfInBounds_toArray, List.set_cons_zero, List.set_cons_succ])
                            refine tkT 29 (.bool (decide (f.v < e.t))) rfl ?_
                            (try simp only [Act.put, List.getElem_toArray, List.getElem_cons_succ, List.getElem_cons_zero, List.setIfInBounds_toArray, List.set_cons_zero, List.set_cons_succ])
                            refine wpAnyH_ready (rs := [18]) (by kernel_rfl) (by simp) ?_
                            refine AllReadyH.cons rfl (fun K hK => ?_) ?_
                            · go_simp
                              (go_at_call 12; refine (HDC.out _ (by with_reducible (repeat' first | assumption | exact Below.refl _ _ | refine Below.drew ?_ | refine bdrewN ?_ _ | refine Below.setCell ?_ (by first | exact Nat.le_refl _ | (simp; done) | (simp; omega) | omega) _ | refine Below.alloc ?_ (by first | exact Nat.le_refl _ | (simp; done) | (simp; omega) | omega) _))).mono ?_; rintro e' w8 ⟨rfl, hb8⟩; have hB8 : Below W5.heap.size W5 w8 := bup (by with_reducible (repeat' first | assumption | exact Below.refl _ _ | refine Below.drew ?_ | refine bdrewN ?_ _ | refine Below.setCell ?_ (by first | exact Nat.le_refl _ | (simp; done) | (simp; omega) | omega) _ | refine Below.alloc ?_ (by first | exact Nat.le_refl _ | (simp; done) | (simp; omega) | omega) _)) hb8; have hR8 : Below wr.heap.size wr w8 := bup (by with_reducible (repeat' first | assumption | exact Below.refl _ _ | refine Below.drew ?_ | refine bdrewN ?_ _ | refine Below.setCell ?_ (by first | exact Nat.le_refl _ | (simp; done) | (simp; omega) | omega) _ | refine Below.alloc ?_ (by first | exact Nat.le_refl _ | (simp; done) | (simp; omega) | omega) _)) hb8; have g0 : w8.cell? ⟨g, a * 4, none⟩ = some (.int .i64 e.r) := (hR8.cell (p := ⟨g, a * 4, none⟩) lg).trans e0; have g1 : w8.cell? ⟨g, a * 4 + 1, none⟩ = some (.int .i64 e.c) := (hR8.cell (p := ⟨g, a * 4 + 1, none⟩) lg).trans e1; have g2 : w8.cell? ⟨g, a * 4 + 2, none⟩ = some (.int .i64 e.t) := (hR8.cell (p := ⟨g, a * 4 + 2, none⟩) lg).trans e2; have k0 : w8.cell? ⟨g, b * 4, none⟩ = some (.int .i64 f.r) := (hR8.cell (p := ⟨g, b * 4, none⟩) lg).trans f0; have k1 : w8.cell? ⟨g, b * 4 + 1, none⟩ = some (.int .i64 f.c) := (hR8.cell (p := ⟨g, b * 4 + 1, none⟩) lg).trans f1; have k3 : w8.cell? ⟨g, b * 4 + 3, none⟩ = some (.int .i64 f.v) := (hR8.cell (p := ⟨g, b * 4 + 3, none⟩) lg).trans f3; have lg8 : g < w8.heap.size := (by have := hR8.size; omega); clear hb8)
                              go_wp2_with fail
                              refine hK.out _ _ (by (try dsimp only); first | (with_reducible assumption) | ((repeat' apply And.intro) <;> (first | (go_keep; done) | (go_simp; done)))) (fun hHeld => ?_)
                              clear hK K
                              (try simp only [Act.put, List.getElem_toArray, List.getElem_cons_succ, List.getElem_cons_zero, List.setIfInBounds_toArray, List.set_cons_zero, List.set_cons_succ])
                              refine tkT 30 (.bool false) rfl ?_
                              (try simp only [Act.put, List.getElem_toArray, List.getElem_cons_succ, List.getElem_cons_zero, List.setIfInBounds_toArray, List.set_cons_zero, List.set_cons_succ])
                              refine tkT 31 (.bool false) rfl ?_
                              (try simp only [Act.put, List.getElem_toArray, List.getElem_cons_succ, List.getElem_cons_zero, List.setIfInBounds_toArray, List.set_cons_zero, List.set_cons_succ])
                              refine wpAnyH_done (by kernel_rfl) ?_ _
                              go_wp2
                              exact ⟨⟨b + 1, by go_num, by omega, by with_reducible (repeat' first | assumption | exact Below.refl _ _ | refine Below.drew ?_ | refine bdrewN ?_ _ | refine Below.setCell ?_ (by first | exact Nat.le_refl _ | (simp; done) | (simp; omega) | omega) _ | refine Below.alloc ?_ (by first | exact Nat.le_refl _ | (simp; done) | (simp; omega) | omega) _)⟩, by simp [intOf]; omega⟩
                            exact AllReadyH.nil
                          · have d13 : decide ((b : Int) < 12) = false := decide_eq_false h13
                            go_wp2
                            refine wp_region_held_drew (S := (fun w' => w'.cell? ⟨g, a * 4, none⟩ = some (.int .i64 e.r) ∧ w'.cell? ⟨g, a * 4 + 1, none⟩ = some (.int .i64 e.c) ∧ w'.cell? ⟨g, a * 4 + 2, none⟩ = some (.int .i64 e.t) ∧ w'.cell? ⟨g, b * 4, none⟩ = some (.int .i64 f.r) ∧ w'.cell? ⟨g, b * 4 + 1, none⟩ = some (.int .i64 f.c) ∧ w'.cell? ⟨g, b * 4 + 3, none⟩ = some (.int .i64 f.v))) (by kernel_rfl) (by (try dsimp only); ((repeat' apply And.intro) <;> (first | (go_keep; done) | (go_simp; done)))) (fun hHeld => ?_)
                            refine tkT 0 (.int .i64 a) rfl ?_
                            (try simp only [Act.put, List.getElem_toArray, List.getElem_cons_succ, List.getElem_cons_zero, List.setIfInBounds_toArray, List.set_cons_zero, List.set_cons_succ])
                            refine tkT 1 (.bool true) rfl ?_
                            (try simp only [Act.put, List.getElem_toArray, List.getElem_cons_succ, List.getElem_cons_zero, List.setIfInBounds_toArray, List.set_cons_zero, List.set_cons_succ])
                            refine tkT 2 (.bool true) rfl ?_
                            (try simp only [Act.put, List.getElem_toArray, List.getElem_cons_succ, List.getElem_cons_zero, List.setIfInBounds_toArray, List.set_cons_zero, List.set_cons_succ])
                            refine tkT 3 (.int .i64 b) rfl ?_
                            (try simp only [Act.put, List.getElem_toArray, List.getElem_cons_succ, List.getElem_cons_zero, List.setIfInBounds_toArray, List.set_cons_zero, List.set_cons_succ])
                            refine tkT 4 (.bool false) rfl ?_
                            (try simp only [Act.put, List.getElem_toArray, List.getElem_cons_succ, List.getElem_cons_zero, List.setIfInBounds_toArray, List.set_cons_zero, List.set_cons_succ])
                            refine tkT 5 (.bool false) rfl ?_
                            (try simp only [Act.put, List.getElem_toArray, List.getElem_cons_succ, List.getElem_cons_zero, List.setIfInBounds_toArray, List.set_cons_zero, List.set_cons_succ])
                            refine tkT 6 (.bool false) rfl ?_
                            (try simp only [Act.put, List.getElem_toArray, List.getElem_cons_succ, List.getElem_cons_zero, List.setIfInBounds_toArray, List.set_cons_zero, List.set_cons_succ])
                            refine tkU 7 rfl ?_
                            (try simp only [Act.put, List.getElem_toArray, List.getElem_cons_succ, List.getElem_cons_zero, List.setIfInBounds_toArray, List.set_cons_zero, List.set_cons_succ])
                            refine tkU 8 rfl ?_
                            refine tkU 9 rfl ?_
                            refine tkU 10 rfl ?_
                            refine tkU 11 rfl ?_
                            (try simp only [Act.put, List.getElem_toArray, List.getElem_cons_succ, List.getElem_cons_zero, List.setIfInBounds_toArray, List.set_cons_zero, List.set_cons_succ])
                            refine tkU 12 rfl ?_
                            refine tkU 13 rfl ?_
                            refine tkU 14 rfl ?_
                            refine tkU 15 rfl ?_
                            (try simp only [Act.put, List.getElem_toArray, List.getElem_cons_succ, List.getElem_cons_zero, List.setIfInBounds_toArray, List.set_cons_zero, List.set_cons_succ])
                            refine tkU 16 rfl ?_
                            refine tkU 17 rfl ?_
                            refine tkU 18 rfl ?_
                            refine tkU 19 rfl ?_
                            (try simp only [Act.put, List.getElem_toArray, List.getElem_cons_succ, List.getElem_cons_zero, List.setIfInBounds_toArray, List.set_cons_zero, List.set_cons_succ])
                            refine tkU 20 rfl ?_
                            refine tkU 21 rfl ?_
                            refine tkU 22 rfl ?_
                            refine tkU 23 rfl ?_
                            (try simp only [Act.put, List.getElem_toArray, List.getElem_cons_succ, List.getElem_cons_zero, List.setIfInBounds_toArray, List.set_cons_zero, List.set_cons_succ])
                            refine tkU 24 rfl ?_
                            refine tkU 25 rfl ?_
                            refine tkU 26 rfl ?_
                            refine tkU 27 rfl ?_
                            (try simp only [Act.put, List.getElem_toArray, List.getElem_cons_succ, List.getElem_cons_zero, List.setIfInBounds_toArray, List.set_cons_zero, List.set_cons_succ])
                            refine tkU 28 rfl ?_
                            refine tkU 29 rfl ?_
                            refine tkU 30 rfl ?_
                            (try simp only [Act.put, List.getElem_toArray, List.getElem_cons_succ, List.getElem_cons_zero, List.setIfInBounds_toArray, List.set_cons_zero, List.set_cons_succ])
                            refine tkT 31 (.bool false) rfl ?_
                            (try simp only [Act.put, List.getElem_toArray, List.getElem_cons_succ, List.getElem_cons_zero, List.setIfInBounds_toArray, List.set_cons_zero, List.set_cons_succ])
                            refine wpAnyH_done (by kernel_rfl) ?_ _
                            go_wp2
                            exact ⟨⟨b + 1, by go_num, by omega, by with_reducible (repeat' first | assumption | exact Below.refl _ _ | refine Below.drew ?_ | refine bdrewN ?_ _ | refine Below.setCell ?_ (by first | exact Nat.le_refl _ | (simp; done) | (simp; omega) | omega) _ | refine Below.alloc ?_ (by first | exact Nat.le_refl _ | (simp; done) | (simp; omega) | omega) _)⟩, by simp [intOf]; omega⟩
                        · have d12 : decide ((a : Int) < 12) = false := decide_eq_false h12
                          go_wp2
                          refine wp_region_held_drew (S := (fun w' => w'.cell? ⟨g, a * 4, none⟩ = some (.int .i64 e.r) ∧ w'.cell? ⟨g, a * 4 + 1, none⟩ = some (.int .i64 e.c) ∧ w'.cell? ⟨g, a * 4 + 2, none⟩ = some (.int .i64 e.t) ∧ w'.cell? ⟨g, b * 4, none⟩ = some (.int .i64 f.r) ∧ w'.cell? ⟨g, b * 4 + 1, none⟩ = some (.int .i64 f.c) ∧ w'.cell? ⟨g, b * 4 + 3, none⟩ = some (.int .i64 f.v))) (by kernel_rfl) (by (try dsimp only); ((repeat' apply And.intro) <;> (first | (go_keep; done) | (go_simp; done)))) (fun hHeld => ?_)
                          refine tkT 0 (.int .i64 a) rfl ?_
                          (try simp only [Act.put, List.getElem_toArray, List.getElem_cons_succ, List.getElem_cons_zero, List.setIfInBounds_toArray, List.set_cons_zero, List.set_cons_succ])
                          refine tkT 1 (.bool false) rfl ?_
                          (try simp only [Act.put, List.getElem_toArray, List.getElem_cons_succ, List.getElem_cons_zero, List.setIfInBounds_toArray, List.set_cons_zero, List.set_cons_succ])
                          refine tkT 2 (.bool false) rfl ?_
                          (try simp only [Act.put, List.getElem_toArray, List.getElem_cons_succ, List.getElem_cons_zero, List.setIfInBounds_toArray, List.set_cons_zero, List.set_cons_succ])
                          refine tkU 3 rfl ?_
                          (try simp only [Act.put, List.getElem_toArray, List.getElem_cons_succ, List.getElem_cons_zero, List.setIfInBounds_toArray, List.set_cons_zero, List.set_cons_succ])
                          refine tkU 4 rfl ?_
                          (try simp only [Act.put, List.getElem_toArray, List.getElem_cons_succ, List.getElem_cons_zero, List.setIfInBounds_toArray, List.set_cons_zero, List.set_cons_succ])
                          refine tkT 5 (.bool false) rfl ?_
                          (try simp only [Act.put, List.getElem_toArray, List.getElem_cons_succ, List.getElem_cons_zero, List.setIfInBounds_toArray, List.set_cons_zero, List.set_cons_succ])
                          refine tkT 6 (.bool false) rfl ?_
                          (try simp only [Act.put, List.getElem_toArray, List.getElem_cons_succ, List.getElem_cons_zero, List.setIfInBounds_toArray, List.set_cons_zero, List.set_cons_succ])
                          refine tkU 7 rfl ?_
                          (try simp only [Act.put, List.getElem_toArray, List.getElem_cons_succ, List.getElem_cons_zero, List.setIfInBounds_toArray, List.set_cons_zero, List.set_cons_succ])
                          refine tkU 8 rfl ?_
                          refine tkU 9 rfl ?_
                          refine tkU 10 rfl ?_
                          refine tkU 11 rfl ?_
                          (try simp only [Act.put, List.getElem_toArray, List.getElem_cons_succ, List.getElem_cons_zero, List.setIfInBounds_toArray, List.set_cons_zero, List.set_cons_succ])
                          refine tkU 12 rfl ?_
                          refine tkU 13 rfl ?_
                          refine tkU 14 rfl ?_
                          refine tkU 15 rfl ?_
                          (try simp only [Act.put, List.getElem_toArray, List.getElem_cons_succ, List.getElem_cons_zero, List.setIfInBounds_toArray, List.set_cons_zero, List.set_cons_succ])
                          refine tkU 16 rfl ?_
                          refine tkU 17 rfl ?_
                          refine tkU 18 rfl ?_
                          refine tkU 19 rfl ?_
                          (try simp only [Act.put, List.getElem_toArray, List.getElem_cons_succ, List.getElem_cons_zero, List.setIfInBounds_toArray, List.set_cons_zero, List.set_cons_succ])
                          refine tkU 20 rfl ?_
                          refine tkU 21 rfl ?_
                          refine tkU 22 rfl ?_
                          refine tkU 23 rfl ?_
                          (try simp only [Act.put, List.getElem_toArray, List.getElem_cons_succ, List.getElem_cons_zero, List.setIfInBounds_toArray, List.set_cons_zero, List.set_cons_succ])
                          refine tkU 24 rfl ?_
                          refine tkU 25 rfl ?_
                          refine tkU 26 rfl ?_
                          refine tkU 27 rfl ?_
                          (try simp only [Act.put, List.getElem_toArray, List.getElem_cons_succ, List.getElem_cons_zero, List.setIfInBounds_toArray, List.set_cons_zero, List.set_cons_succ])
                          refine tkU 28 rfl ?_
                          refine tkU 29 rfl ?_
                          refine tkU 30 rfl ?_
                          (try simp only [Act.put, List.getElem_toArray, List.getElem_cons_succ, List.getElem_cons_zero, List.setIfInBounds_toArray, List.set_cons_zero, List.set_cons_succ])
                          refine tkT 31 (.bool false) rfl ?_
                          (try simp only [Act.put, List.getElem_toArray, List.getElem_cons_succ, List.getElem_cons_zero, List.setIfInBounds_toArray, List.set_cons_zero, List.set_cons_succ])
                          refine wpAnyH_done (by kernel_rfl) ?_ _
                          go_wp2
                          exact ⟨⟨b + 1, by go_num, by omega, by with_reducible (repeat' first | assumption | exact Below.refl _ _ | refine Below.drew ?_ | refine bdrewN ?_ _ | refine Below.setCell ?_ (by first | exact Nat.le_refl _ | (simp; done) | (simp; omega) | omega) _ | refine Below.alloc ?_ (by first | exact Nat.le_refl _ | (simp; done) | (simp; omega) | omega) _)⟩, by simp [intOf]; omega⟩
                      · have hbm' : ¬ ((b : Int) < m6) := by omega
                        go_wp2
                        exact ⟨⟨a + 1, by go_num, by omega, by with_reducible (repeat' first | assumption | exact Below.refl _ _ | refine Below.drew ?_ | refine bdrewN ?_ _ | refine Below.setCell ?_ (by first | exact Nat.le_refl _ | (simp; done) | (simp; omega) | omega) _ | refine Below.alloc ?_ (by first | exact Nat.le_refl _ | (simp; done) | (simp; omega) | omega) _)⟩, by simp [intOf]; omega⟩
                  · have ham' : ¬ ((a : Int) < m6) := by omega
                    go_wp2
                    exact ⟨⟨i + 1, (.slice q6 m6 cap6), l6, T6, V6, la6, tu6, S6, L6, rfl, by go_num, by omega, by first | omega | (simp; omega), (show Cz _ _ _ _ _ _ _ _ _ from HC5.out.keep (by with_reducible (repeat' first | assumption | exact Below.refl _ _ | refine Below.drew ?_ | refine bdrewN ?_ _ | refine Below.setCell ?_ (by first | exact Nat.le_refl _ | (simp; done) | (simp; omega) | omega) _ | refine Below.alloc ?_ (by first | exact Nat.le_refl _ | (simp; done) | (simp; omega) | omega) _))), (show RowG _ _ _ _ _ _ _ from HR5.out.keep (by with_reducible (repeat' first | assumption | exact Below.refl _ _ | refine Below.drew ?_ | refine bdrewN ?_ _ | refine Below.setCell ?_ (by first | exact Nat.le_refl _ | (simp; done) | (simp; omega) | omega) _ | refine Below.alloc ?_ (by first | exact Nat.le_refl _ | (simp; done) | (simp; omega) | omega) _))), (show Wn _ _ _ _ _ from HW5.out), hB5.trans ((show Below W5.heap.size W5 _ from by with_reducible (repeat' first | assumption | exact Below.refl _ _ | refine Below.drew ?_ | refine bdrewN ?_ _ | refine Below.setCell ?_ (by first | exact Nat.le_refl _ | (simp; done) | (simp; omega) | omega) _ | refine Below.alloc ?_ (by first | exact Nat.le_refl _ | (simp; done) | (simp; omega) | omega) _)).mono z5)⟩, by simp [intOf]; omega⟩
          · as_aux_lemma =>
              have HIN : Hid (¬ ∀ e ∈ l5, ¬ (e.r = op.r ∧ e.c = op.c)) := hio
              clear hio
              have h0m : 0 < m := by have := some_in HIN.out; have := HM.out; omega
              obtain ⟨g, rfl, hg, _⟩ := hq5 h0m
              clear hq5
              go_wp2_with (first
                              | (go_at_call 7; refine (lat_in _ _ _ _ _ _ (HR.out.keep (by with_reducible (repeat' first | assumption | exact Below.refl _ _ | refine Below.drew ?_ | refine bdrewN ?_ _ | refine Below.setCell ?_ (by first | exact Nat.le_refl _ | (simp; done) | (simp; omega) | omega) _ | refine Below.alloc ?_ (by first | exact Nat.le_refl _ | (simp; done) | (simp; omega) | omega) _))) HLl.out HIN.out).mono ?_; rintro e w1 ⟨p, f, rfl, hf, hfr, hfc, hb⟩; have HF : Hid (l5[p]? = some f) := hf; have HFR : Hid (f.r = op.r) := hfr; have HFC : Hid (f.c = op.c) := hfc; have hB1 : Below w.heap.size w w1 := bup (by with_reducible (repeat' first | assumption | exact Below.refl _ _ | refine Below.drew ?_ | refine bdrewN ?_ _ | refine Below.setCell ?_ (by first | exact Nat.le_refl _ | (simp; done) | (simp; omega) | omega) _ | refine Below.alloc ?_ (by first | exact Nat.le_refl _ | (simp; done) | (simp; omega) | omega) _)) hb; have hR1 : Below wr.heap.size wr w1 := bup (by with_reducible (repeat' first | assumption | exact Below.refl _ _ | refine Below.drew ?_ | refine bdrewN ?_ _ | refine Below.setCell ?_ (by first | exact Nat.le_refl _ | (simp; done) | (simp; omega) | omega) _ | refine Below.alloc ?_ (by first | exact Nat.le_refl _ | (simp; done) | (simp; omega) | omega) _)) hb; have oX1 : Own w1 wr.heap.size #[.int .i64 0, .int .i64 op.r, .int .i64 op.c, .int .i64 op.r2, .int .i64 op.c2] := Own.keep (by with_reducible (repeat' first | assumption | refine Own.drew ?_ | refine Own.drewN ?_ _ | (refine Own.at ?_; first | rfl | (simp; done)) | refine Own.past ?_ _)) hb; have x10 : w1.cell? ⟨wr.heap.size, 0, none⟩ = some (.int .i64 0) := oX1.cell 0; have x11 : w1.cell? ⟨wr.heap.size, 1, none⟩ = some (.int .i64 op.r) := oX1.cell 1; have x12 : w1.cell? ⟨wr.heap.size, 2, none⟩ = some (.int .i64 op.c) := oX1.cell 2; have lX1 := oX1.lt; have hpm : p < m := (by have := HM.out; have := (List.getElem?_eq_some_iff.1 hf).1; omega); have hpb : ((p : Int) == (m : Int)) = false := (by simp; omega); have hpd : decide ((p : Int) < (m : Int)) = true := decide_eq_true (by omega); clear hb hf hfr hfc)
                              | (go_at_call 8; refine (HMy.out _).mono ?_; rintro e w2 ⟨rfl, hb⟩; have hB2 : Below w.heap.size w w2 := bup (by with_reducible (repeat' first | assumption | exact Below.refl _ _ | refine Below.drew ?_ | refine bdrewN ?_ _ | refine Below.setCell ?_ (by first | exact Nat.le_refl _ | (simp; done) | (simp; omega) | omega) _ | refine Below.alloc ?_ (by first | exact Nat.le_refl _ | (simp; done) | (simp; omega) | omega) _)) hb; have hR2 : Below wr.heap.size wr w2 := bup (by with_reducible (repeat' first | assumption | exact Below.refl _ _ | refine Below.drew ?_ | refine bdrewN ?_ _ | refine Below.setCell ?_ (by first | exact Nat.le_refl _ | (simp; done) | (simp; omega) | omega) _ | refine Below.alloc ?_ (by first | exact Nat.le_refl _ | (simp; done) | (simp; omega) | omega) _)) hb; have oX2 : Own w2 wr.heap.size #[.int .i64 0, .int .i64 op.r, .int .i64 op.c, .int .i64 op.r2, .int .i64 op.c2] := Own.keep (by with_reducible (repeat' first | assumption | refine Own.drew ?_ | refine Own.drewN ?_ _ | (refine Own.at ?_; first | rfl | (simp; done)) | refine Own.past ?_ _)) hb; have x20 : w2.cell? ⟨wr.heap.size, 0, none⟩ = some (.int .i64 0) := oX2.cell 0; have x21 : w2.cell? ⟨wr.heap.size, 1, none⟩ = some (.int .i64 op.r) := oX2.cell 1; have x22 : w2.cell? ⟨wr.heap.size, 2, none⟩ = some (.int .i64 op.c) := oX2.cell 2; have lX2 := oX2.lt; have HX2 : Hid (Nx w.heap.size w2 N most last turns S i L (.slice (some ⟨g, 0, none⟩) m cap5) l5 wr.heap.size #[.int .i64 0, .int .i64 op.r, .int .i64 op.c, .int .i64 op.r2, .int .i64 op.c2]) := (show Nx _ _ _ _ _ _ _ _ _ _ _ _ _ from Nx.begin HC.out HR.out hR2 oX2 (Nat.le_refl _) (by omega)); clear hb))
              go_at_call 10
              refine (nx_change HX2.out (by omega) op.r op.c ok1 ok2 ⟨hm1, hm2⟩ (by omega)).mono ?_
              rintro e w3 ⟨code, la, tu, S3, rfl, q1, q2, q3⟩
              have HX3 : Hid (Nx w.heap.size w3 N most la tu S3 (i + 1) (⟨op.r, op.c⟩ :: L) (.slice (some ⟨g, 0, none⟩) m cap5) l5 wr.heap.size #[.int .i64 0, .int .i64 op.r, .int .i64 op.c, .int .i64 op.r2, .int .i64 op.c2]) := q1
              have hB3 : Below w.heap.size w w3 := hB2.trans q2
              have z3 := hB3.size
              have oX3 := HX3.out.own
              have x30 : w3.cell? ⟨wr.heap.size, 0, none⟩ = some (.int .i64 0) := oX3.cell 0; have x31 : w3.cell? ⟨wr.heap.size, 1, none⟩ = some (.int .i64 op.r) := oX3.cell 1; have x32 : w3.cell? ⟨wr.heap.size, 2, none⟩ = some (.int .i64 op.c) := oX3.cell 2
              have lX3 := oX3.lt
              clear q1 q2
              rcases q3 with ⟨_, q, _⟩ | ⟨rfl, _, rfl, lo, k1, k2⟩ | ⟨rfl, _, k1⟩
              · exact absurd (HMY.out.symm.trans q) (by simp)
              · have hle : most - 1 ≤ m := by
                  have := HW.out.oth HX2.out.cz.dom k1
                  have := HM.out
                  omega
                clear k1 k2
                go_wp2
                go_ret
                exact ⟨rfl, by with_reducible (repeat' first | assumption | exact Below.refl _ _ | refine Below.drew ?_ | refine bdrewN ?_ _ | refine Below.setCell ?_ (by first | exact Nat.le_refl _ | (simp; done) | (simp; omega) | omega) _ | refine Below.alloc ?_ (by first | exact Nat.le_refl _ | (simp; done) | (simp; omega) | omega) _)⟩
              · have HNw : Hid (Nw S S3 op.r op.c) := k1
                clear k1
                have gj : w3.cell? ⟨g, p * 4 + 2, none⟩ = some (.int .i64 f.t) := row_at HX3.out.row HF.out 2 _ rfl
                have gf : w3.frozen? ⟨g, p * 4 + 2, none⟩ = false := row_fro HX3.out.row _
                have lg : g < w3.heap.size := (HX3.out.row.lt g rfl).2
                have hB4 := hB3
                go_wp2
                obtain ⟨W5, hW5⟩ : ∃ W5 : World, W5 = w3.setCell ⟨g, p * 4 + 2, none⟩ (.int .i64 ((i : Int) + 1)) := ⟨_, rfl⟩
                obtain ⟨q6, m6, cap6, hv6, l6, T6, V6, la6, tu6, S6, L6, hl6, HC5, HR5, HW5⟩ : ∃ (q6 : Option Addr) (m6 cap6 : Nat), Value.slice (some ⟨g, 0, none⟩) m cap5 = .slice q6 m6 cap6 ∧ ∃ (l6 : List We) (T6 V6 : Int → Int → Int) (la6 tu6 : Int) (S6 : St) (L6 : List Cl), l6.length ≤ i + 1 ∧ Hid (Cz (Fv w.heap.size (.slice q6 m6 cap6)) W5 N most la6 tu6 S6 (i + 1) L6) ∧ Hid (RowW W5 w.heap.size (.slice q6 m6 cap6) l6) ∧ Hid (Wn S6 T6 V6 l6 ((i : Int) + 1)) := ⟨(some ⟨g, 0, none⟩), m, cap5, rfl, (l5.set p (⟨f.r, f.c, (i : Int) + 1, f.v⟩ : We)), (upI T op.r op.c ((i : Int) + 1)), V, la, tu, S3, (⟨op.r, op.c⟩ :: L), (by first | omega | (simp; omega)), (show Cz _ _ _ _ _ _ _ _ _ from by rw [hW5]; exact (HX3.out.put (e' := (⟨f.r, f.c, (i : Int) + 1, f.v⟩ : We)) (j := 2) (u := (.int .i64 ((i : Int) + 1))) HF.out (by decide) rfl).czF), (show RowG _ _ _ _ _ _ _ from by rw [hW5]; exact (HX3.out.put (e' := (⟨f.r, f.c, (i : Int) + 1, f.v⟩ : We)) (j := 2) (u := (.int .i64 ((i : Int) + 1))) HF.out (by decide) rfl).row), (show Wn _ _ _ _ _ from (HW.out).ch HNw.out HMY.out HF.out HFR.out HFC.out)⟩
                have hB5 : Below w.heap.size w W5 := (by rw [hW5]; exact hB4.trans (HX3.out.putB (.int .i64 ((i : Int) + 1))))
                rw [hv6, ← hW5]
                clear hW5 hv6
                clear HX2 HC HR HW HMy
                obtain ⟨hml, hmc, hmc2, hq5⟩ := row_q HR5.out
                have HQ5 : Hid _ := hq5
                have HL6 : Hid (m6 = l6.length) := hml
                have b5 : Below W5.heap.size W5 W5 := Below.refl _ _
                have z5 := hB5.size
                clear hq5 hml
                go_loopw [13] (fun u w' => ∃ a : Nat, u = .int .i64 a ∧ a ≤ m6 ∧ Below W5.heap.size W5 w') (fun u _ => m6 - (intOf u).toNat)
                case atStart => exact ⟨0, rfl, by omega, b5⟩
                case round =>
                  clear b5
                  obtain ⟨a, rfl, ha, hB6⟩ := hrel
                  have z6 := hB6.size
                  by_cases ham : a < m6
                  · have ham' : (a : Int) < m6 := by omega
                    go_wp2
                    go_loopw [14] (fun u w' => ∃ b : Nat, u = .int .i64 b ∧ b ≤ m6 ∧ Below W5.heap.size W5 w') (fun u _ => m6 - (intOf u).toNat)
                    case atStart => exact ⟨0, rfl, by omega, by with_reducible (repeat' first | assumption | exact Below.refl _ _ | refine Below.drew ?_ | refine bdrewN ?_ _ | refine Below.setCell ?_ (by first | exact Nat.le_refl _ | (simp; done) | (simp; omega) | omega) _ | refine Below.alloc ?_ (by first | exact Nat.le_refl _ | (simp; done) | (simp; omega) | omega) _)⟩
                    case round =>
                      clear hB6 z6
                      obtain ⟨b, rfl, hb, hB7⟩ := hrel
                      have z7 := hB7.size
                      by_cases hbm : b < m6
                      · have hbm' : (b : Int) < m6 := by omega
                        obtain ⟨e, he⟩ : ∃ e, l6[a]? = some e := ⟨_, List.getElem?_eq_getElem (by have := HL6.out; omega)⟩
                        obtain ⟨f, hf⟩ : ∃ f, l6[b]? = some f := ⟨_, List.getElem?_eq_getElem (by have := HL6.out; omega)⟩
                        obtain ⟨g, rfl, hg, hcl⟩ := HQ5.out (by omega)
                        have e0 : wr.cell? ⟨g, a * 4, none⟩ = some (.int .i64 e.r) := (hB7.cell (p := ⟨g, a * 4, none⟩) hg).trans (hcl a e he 0 _ rfl)
                        have e1 : wr.cell? ⟨g, a * 4 + 1, none⟩ = some (.int .i64 e.c) := (hB7.cell (p := ⟨g, a * 4 + 1, none⟩) hg).trans (hcl a e he 1 _ rfl)
                        have e2 : wr.cell? ⟨g, a * 4 + 2, none⟩ = some (.int .i64 e.t) := (hB7.cell (p := ⟨g, a * 4 + 2, none⟩) hg).trans (hcl a e he 2 _ rfl)
                        have f0 : wr.cell? ⟨g, b * 4, none⟩ = some (.int .i64 f.r) := (hB7.cell (p := ⟨g, b * 4, none⟩) hg).trans (hcl b f hf 0 _ rfl)
                        have f1 : wr.cell? ⟨g, b * 4 + 1, none⟩ = some (.int .i64 f.c) := (hB7.cell (p := ⟨g, b * 4 + 1, none⟩) hg).trans (hcl b f hf 1 _ rfl)
                        have f3 : wr.cell? ⟨g, b * 4 + 3, none⟩ = some (.int .i64 f.v) := (hB7.cell (p := ⟨g, b * 4 + 3, none⟩) hg).trans (hcl b f hf 3 _ rfl)
                        have lg : g < wr.heap.size := by omega
                        have HDC : Hid (∀ W, Below W5.heap.size W5 W → Calls Try.prog 12 #[.pointer (some ⟨N, 0, none⟩), .agg #[.int .i64 e.r, .int .i64 e.c], .agg #[.int .i64 f.r, .int .i64 f.c]] W fun e' w' => e' = .returned (.bool (decide (f.v < e.t))) ∧ Below W.heap.size W w') := (show _ from fun W h1 => (cz_newer (HC5.out.keep h1) e.r e.c f.r f.c (HW5.out.i64 e (List.mem_of_getElem? he)).1 (HW5.out.i64 e (List.mem_of_getElem? he)).2 (HW5.out.i64 f (List.mem_of_getElem? hf)).1 (HW5.out.i64 f (List.mem_of_getElem? hf)).2).mono (fun e' w' q => by rw [dec_newer HW5.out he hf] at q; exact q))
                        clear hcl he hf
                        by_cases h12 : (a : Int) < 12
                        · have d12 : decide ((a : Int) < 12) = true := decide_eq_true h12
                          by_cases h13 : (b : Int) < 12
                          · have d13 : decide ((b : Int) < 12) = true := decide_eq_true h13
                            go_wp2
                            refine wp_region_held_drew (S := (fun w' => w'.cell? ⟨g, a * 4, none⟩ = some (.int .i64 e.r) ∧ w'.cell? ⟨g, a * 4 + 1, none⟩ = some (.int .i64 e.c) ∧ w'.cell? ⟨g, a * 4 + 2, none⟩ = some (.int .i64 e.t) ∧ w'.cell? ⟨g, b * 4, none⟩ = some (.int .i64 f.r) ∧ w'.cell? ⟨g, b * 4 + 1, none⟩ = some (.int .i64 f.c) ∧ w'.cell? ⟨g, b * 4 + 3, none⟩ = some (.int .i64 f.v))) (by kernel_rfl) (by (try dsimp only); ((repeat' apply And.intro) <;> (first | (go_keep; done) | (go_simp; done)))) (fun hHeld => ?_)
                            refine tkT 0 (.int .i64 a) rfl ?_
                            (try simp only [Act.put, List.getElem_toArray, List.getElem_cons_succ, List.getElem_cons_zero, List.setIfInBounds_toArray, List.set_cons_zero, List.set_cons_succ])
                            refine tkT 1 (.bool true) rfl ?_
                            (try simp only [Act.put, List.getElem_toArray, List.getElem_cons_succ, List.getElem_cons_zero, List.setIfInBounds_toArray, List.set_cons_zero, List.set_cons_succ])
                            refine tkT 2 (.bool true) rfl ?_
                            (try simp only [Act.put, List.getElem_toArray, List.getElem_cons_succ, List.getElem_cons_zero, List.setIfInBounds_toArray, List.set_cons_zero, List.set_cons_succ])
                            refine tkT 3 (.int .i64 b) rfl ?_
                            (try simp only [Act.put, List.getElem_toArray, List.getElem_cons_succ, List.getElem_cons_zero, List.setIfInBounds_toArray, List.set_cons_zero, List.set_cons_succ])
                            refine tkT 4 (.bool true) rfl ?_
                            (try simp only [Act.put, List.getElem_toArray, List.getElem_cons_succ, List.getElem_cons_zero, List.setIfInBounds_toArray, List.set_cons_zero, List.set_cons_succ])
                            refine tkT 5 (.bool true) rfl ?_
                            (try simp only [Act.put, List.getElem_toArray, List.getElem_cons_succ, List.getElem_cons_zero, List.setIfInBounds_toArray, List.set_cons_zero, List.set_cons_succ])
                            refine tkT 6 (.bool true) rfl ?_
                            (try simp only [Act.put, List.getElem_toArray, List.getElem_cons_succ, List.getElem_cons_zero, List.setIfInBounds_toArray, List.set_cons_zero, List.set_cons_succ])
                            refine tkT 7 (.pointer (some ⟨N, 0, none⟩)) rfl ?_
                            (try simp only [Act.put, List.getElem_toArray, List.getElem_cons_succ, List.getElem_cons_zero, List.setIfInBounds_toArray, List.set_cons_zero, List.set_cons_succ])
                            refine tkT 8 (.slice (some ⟨g, 0, none⟩) m6 cap6) rfl ?_
                            (try simp only [Act.put, List.getElem_toArray, List.getElem_cons_succ, List.getElem_cons_zero, List.setIfInBounds_toArray, List.set_cons_zero, List.set_cons_succ])
                            refine tkT 9 (.int .i64 a) rfl ?_
                            (try simp only [Act.put, List.getElem_toArray, List.getElem_cons_succ, List.getElem_cons_zero, List.setIfInBounds_toArray, List.set_cons_zero, List.set_cons_succ])
                            refine tkT 10 (.pointer (some ⟨g, a * 4, none⟩)) rfl ?_
                            (try simp only [Act.put, List.getElem_toArray, List.getElem_cons_succ, List.getElem_cons_zero, List.setIfInBounds_toArray, List.set_cons_zero, List.set_cons_succ])
                            refine tkT 11 (.pointer (some ⟨g, a * 4, none⟩)) rfl ?_
                            (try simp only [Act.put, List.getElem_toArray, List.getElem_cons_succ, List.getElem_cons_zero, List.setIfInBounds_toArray, List.set_cons_zero, List.set_cons_succ])
                            refine tkT 12 (.agg #[.int .i64 e.r, .int .i64 e.c]) rfl ?_
                            (try simp only [Act.put, List.getElem_toArray, List.getElem_cons_succ, List.getElem_cons_zero, List.setIfInBounds_toArray, List.set_cons_zero, List.set_cons_succ])
                            refine tkT 13 (.slice (some ⟨g, 0, none⟩) m6 cap6) rfl ?_
                            (try simp only [Act.put, List.getElem_toArray, List.getElem_cons_succ, List.getElem_cons_zero, List.setIfInBounds_toArray, List.set_cons_zero, List.set_cons_succ])
                            refine tkT 14 (.int .i64 b) rfl ?_
                            (try simp only [Act.put, List.getElem_toArray, List.getElem_cons_succ, List.getElem_cons_zero, List.setIfInBounds_toArray, List.set_cons_zero, List.set_cons_succ])
                            refine tkT 15 (.pointer (some ⟨g, b * 4, none⟩)) rfl ?_
                            (try simp only [Act.put, List.getElem_toArray, List.getElem_cons_succ, List.getElem_cons_zero, List.setIfInBounds_toArray, List.set_cons_zero, List.set_cons_succ])
                            refine tkT 16 (.pointer (some ⟨g, b * 4, none⟩)) rfl ?_
                            (try simp only [Act.put, List.getElem_toArray, List.getElem_cons_succ, List.getElem_cons_zero, List.setIfInBounds_toArray, List.set_cons_zero, List.set_cons_succ])
                            refine tkT 17 (.agg #[.int .i64 f.r, .int .i64 f.c]) rfl ?_
                            (try simp only [Act.put, List.getElem_toArray, List.getElem_cons_succ, List.getElem_cons_zero, List.setIfInBounds_toArray, List.set_cons_zero, List.set_cons_succ])
                            refine tkT 19 (.slice (some ⟨g, 0, none⟩) m6 cap6) rfl ?_
                            (try simp only [Act.put, List.getElem_toArray, List.getElem_cons_succ, List.getElem_cons_zero, List.setIfInBounds_toArray, List.set_cons_zero, List.set_cons_succ])
                            refine tkT 20 (.int .i64 a) rfl ?_
                            (try simp only [Act.put, List.getElem_toArray, List.getElem_cons_succ, List.getElem_cons_zero, List.setIfInBounds_toArray, List.set_cons_zero, List.set_cons_succ])
                            refine tkT 21 (.pointer (some ⟨g, a * 4, none⟩)) rfl ?_
                            (try simp only [Act.put, List.getElem_toArray, List.getElem_cons_succ, List.getElem_cons_zero, List.setIfInBounds_toArray, List.set_cons_zero, List.set_cons_succ])
                            refine tkT 22 (.pointer (some ⟨g, a * 4 + 2, none⟩)) rfl ?_
                            (try simp only [Act.put, List.getElem_toArray, List.getElem_cons_succ, List.getElem_cons_zero, List.setIfInBounds_toArray, List.set_cons_zero, List.set_cons_succ])
                            refine tkT 23 (.int .i64 e.t) rfl ?_
                            (try simp only [Act.put, List.getElem_toArray, List.getElem_cons_succ, List.getElem_cons_zero, List.setIfInBounds_toArray, List.set_cons_zero, List.set_cons_succ])
                            refine tkT 24 (.slice (some ⟨g, 0, none⟩) m6 cap6) rfl ?_
                            (try simp only [Act.put, List.getElem_toArray, List.getElem_cons_succ, List.getElem_cons_zero, List.setIfInBounds_toArray, List.set_cons_zero, List.set_cons_succ])
                            refine tkT 25 (.int .i64 b) rfl ?_
                            (try simp only [Act.put, List.getElem_toArray, List.getElem_cons_succ, List.getElem_cons_zero, List.setIfInBounds_toArray, List.set_cons_zero, List.set_cons_succ])
                            refine tkT 26 (.pointer (some ⟨g, b * 4, none⟩)) rfl ?_
                            (try simp only [Act.put, List.getElem_toArray, List.getElem_cons_succ, List.getElem_cons_zero, List.setIfInBounds_toArray, List.set_cons_zero, List.set_cons_succ])
                            refine tkT 27 (.pointer (some ⟨g, b * 4 + 3, none⟩)) rfl ?_
                            (try simp only [Act.put, List.getElem_toArray, List.getElem_cons_succ, List.getElem_cons_zero, List.setIfInBounds_toArray, List.set_cons_zero, List.set_cons_succ])
                            refine tkT 28 (.int .i64 f.v) rfl ?_
                            (try simp only [Act.put, List.getElem_toArray, List.getElem_cons_succ, List.getElem_cons_zero, List.setIfInBounds_toArray, List.set_cons_zero, List.set_cons_succ])
                            refine tkT 29 (.bool (decide (f.v < e.t))) rfl ?_
                            (try simp only [Act.put, List.getElem_toArray, List.getElem_cons_succ, List.getElem_cons_zero, List.setIfInBounds_toArray, List.set_cons_zero, List.set_cons_succ])
                            refine wpAnyH_ready (rs := [18]) (by kernel_rfl) (by simp) ?_
                            refine AllReadyH.cons rfl (fun K hK => ?_) ?_
                            · go_simp
                              (go_at_call 12; refine (HDC.out _ (by with_reducible (repeat' first | assumption | exact Below.refl _ _ | refine Below.drew ?_ | refine bdrewN ?_ _ | refine Below.setCell ?_ (by first | exact Nat.le_refl _ | (simp; done) | (simp; omega) | omega) _ | refine Below.alloc ?_ (by first | exact Nat.le_refl _ | (simp; done) | (simp; omega) | omega) _))).mono ?_; rintro e' w8 ⟨rfl, hb8⟩; have hB8 : Below W5.heap.size W5 w8 := bup (by with_reducible (repeat' first | assumption | exact Below.refl _ _ | refine Below.drew ?_ | refine bdrewN ?_ _ | refine Below.setCell ?_ (by first | exact Nat.le_refl _ | (simp; done) | (simp; omega) | omega) _ | refine Below.alloc ?_ (by first | exact Nat.le_refl _ | (simp; done) | (simp; omega) | omega) _)) hb8; have hR8 : Below wr.heap.size wr w8 := bup (by with_reducible (repeat' first | assumption | exact Below.refl _ _ | refine Below.drew ?_ | refine bdrewN ?_ _ | refine Below.setCell ?_ (by first | exact Nat.le_refl _ | (simp; done) | (simp; omega) | omega) _ | refine Below.alloc ?_ (by first | exact Nat.le_refl _ | (simp; done) | (simp; omega) | omega) _)) hb8; have g0 : w8.cell? ⟨g, a * 4, none⟩ = some (.int .i64 e.r) := (hR8.cell (p := ⟨g, a * 4, none⟩) lg).trans e0; have g1 : w8.cell? ⟨g, a * 4 + 1, none⟩ = some (.int .i64 e.c) := (hR8.cell (p := ⟨g, a * 4 + 1, none⟩) lg).trans e1; have g2 : w8.cell? ⟨g, a * 4 + 2, none⟩ = some (.int .i64 e.t) := (hR8.cell (p := ⟨g, a * 4 + 2, none⟩) lg).trans e2; have k0 : w8.cell? ⟨g, b * 4, none⟩ = some (.int .i64 f.r) := (hR8.cell (p := ⟨g, b * 4, none⟩) lg).trans f0; have k1 : w8.cell? ⟨g, b * 4 + 1, none⟩ = some (.int .i64 f.c) := (hR8.cell (p := ⟨g, b * 4 + 1, none⟩) lg).trans f1; have k3 : w8.cell? ⟨g, b * 4 + 3, none⟩ = some (.int .i64 f.v) := (hR8.cell (p := ⟨g, b * 4 + 3, none⟩) lg).trans f3; have lg8 : g < w8.heap.size := (by have := hR8.size; omega); clear hb8)
                              go_wp2_with fail
                              refine hK.out _ _ (by (try dsimp only); first | (with_reducible assumption) | ((repeat' apply And.intro) <;> (first | (go_keep; done) | (go_simp; done)))) (fun hHeld => ?_)
                              clear hK K
                              (try simp only [Act.put, List.getElem_toArray, List.getElem_cons_succ, List.getElem_cons_zero, List.setIfInBounds_toArray, List.set_cons_zero, List.set_cons_succ])
                              refine tkT 30 (.bool false) rfl ?_
                              (try simp only [Act.put, List.getElem_toArray, List.getElem_cons_succ, List.getElem_cons_zero, List.setIfInBounds_toArray, List.set_cons_zero, List.set_cons_succ])
                              refine tkT 31 (.bool false) rfl ?_
                              (try simp only [Act.put, List.getElem_toArray, List.getElem_cons_succ, List.getElem_cons_zero, List.setIfInBounds_toArray, List.set_cons_zero, List.set_cons_succ])
                              refine wpAnyH_done (by kernel_rfl) ?_ _
                              go_wp2
                              exact ⟨⟨b + 1, by go_num, by omega, by with_reducible (repeat' first | assumption | exact Below.refl _ _ | refine Below.drew ?_ | refine bdrewN ?_ _ | refine Below.setCell ?_ (by first | exact Nat.le_refl _ | (simp; done) | (simp; omega) | omega) _ | refine Below.alloc ?_ (by first | exact Nat.le_refl _ | (simp; done) | (simp; omega) | omega) _)⟩, by simp [intOf]; omega⟩
                            exact AllReadyH.nil
                          · have d13 : decide ((b : Int) < 12) = false := decide_eq_false h13
                            go_wp2
                            refine wp_region_held_drew (S := (fun w' => w'.cell? ⟨g, a * 4, none⟩ = some (.int .i64 e.r) ∧ w'.cell? ⟨g, a * 4 + 1, none⟩ = some (.int .i64 e.c) ∧ w'.cell? ⟨g, a * 4 + 2, none⟩ = some (.int .i64 e.t) ∧ w'.cell? ⟨g, b * 4, none⟩ = some (.int .i64 f.r) ∧ w'.cell? ⟨g, b * 4 + 1, none⟩ = some (.int .i64 f.c) ∧ w'.cell? ⟨g, b * 4 + 3, none⟩ = some (.int .i64 f.v))) (by kernel_rfl) (by (try dsimp only); ((repeat' apply And.intro) <;> (first | (go_keep; done) | (go_simp; done)))) (fun hHeld => ?_)
                            refine tkT 0 (.int .i64 a) rfl ?_
                            (try simp only [Act.put, List.getElem_toArray, List.getElem_cons_succ, List.getElem_cons_zero, List.setIfInBounds_toArray, List.set_cons_zero, List.set_cons_succ])
                            refine tkT 1 (.bool true) rfl ?_
                            (try simp only [Act.put, List.getElem_toArray, List.getElem_cons_succ, List.getElem_cons_zero, List.setIfInBounds_toArray, List.set_cons_zero, List.set_cons_succ])
                            refine tkT 2 (.bool true) rfl ?_
                            (try simp only [Act.put, List.getElem_toArray, List.getElem_cons_succ, List.getElem_cons_zero, List.setIfInBounds_toArray, List.set_cons_zero, List.set_cons_succ])
                            refine tkT 3 (.int .i64 b) rfl ?_
                            (try simp only [Act.put, List.getElem_toArray, List.getElem_cons_succ, List.getElem_cons_zero, List.setIfInBounds_toArray, List.set_cons_zero, List.set_cons_succ])
                            refine tkT 4 (.bool false) rfl ?_
                            (try simp only [Act.put, List.getElem_toArray, List.getElem_cons_succ, List.getElem_cons_zero, List.setIfInBounds_toArray, List.set_cons_zero, List.set_cons_succ])
                            refine tkT 5 (.bool false) rfl ?_
                            (try simp only [Act.put, List.getElem_toArray, List.getElem_cons_succ, List.getElem_cons_zero, List.setIfInBounds_toArray, List.set_cons_zero, List.set_cons_succ])
                            refine tkT 6 (.bool false) rfl ?_
                            (try simp only [Act.put, List.getElem_toArray, List.getElem_cons_succ, List.getElem_cons_zero, List.setIfInBounds_toArray, List.set_cons_zero, List.set_cons_succ])
                            refine tkU 7 rfl ?_
                            (try simp only [Act.put, List.getElem_toArray, List.getElem_cons_succ, List.getElem_cons_zero, List.setIfInBounds_toArray, List.set_cons_zero, List.set_cons_succ])
                            refine tkU 8 rfl ?_
                            refine tkU 9 rfl ?_
                            refine tkU 10 rfl ?_
                            refine tkU 11 rfl ?_
                            (try simp only [Act.put, List.getElem_toArray, List.getElem_cons_succ, List.getElem_cons_zero, List.setIfInBounds_toArray, List.set_cons_zero, List.set_cons_succ])
                            refine tkU 12 rfl ?_
                            refine tkU 13 rfl ?_
                            refine tkU 14 rfl ?_
                            refine tkU 15 rfl ?_
                            (try simp only [Act.put, List.getElem_toArray, List.getElem_cons_succ, List.getElem_cons_zero, List.setIfInBounds_toArray, List.set_cons_zero, List.set_cons_succ])
                            refine tkU 16 rfl ?_
                            refine tkU 17 rfl ?_
                            refine tkU 18 rfl ?_
                            refine tkU 19 rfl ?_
                            (try simp only [Act.put, List.getElem_toArray, List.getElem_cons_succ, List.getElem_cons_zero, List.setIfInBounds_toArray, List.set_cons_zero, List.set_cons_succ])
                            refine tkU 20 rfl ?_
                            refine tkU 21 rfl ?_
                            refine tkU 22 rfl ?_
                            refine tkU 23 rfl ?_
                            (try simp only [Act.put, List.getElem_toArray, List.getElem_cons_succ, List.getElem_cons_zero, List.setIfInBounds_toArray, List.set_cons_zero, List.set_cons_succ])
                            refine tkU 24 rfl ?_
                            refine tkU 25 rfl ?_
                            refine tkU 26 rfl ?_
                            refine tkU 27 rfl ?_
                            (try simp only [Act.put, List.getElem_toArray, List.getElem_cons_succ, List.getElem_cons_zero, List.setIfInBounds_toArray, List.set_cons_zero, List.set_cons_succ])
                            refine tkU 28 rfl ?_
                            refine tkU 29 rfl ?_
                            refine tkU 30 rfl ?_
                            (try simp only [Act.put, List.getElem_toArray, List.getElem_cons_succ, List.getElem_cons_zero, List.setIfInBounds_toArray, List.set_cons_zero, List.set_cons_succ])
                            refine tkT 31 (.bool false) rfl ?_
                            (try simp only [Act.put, List.getElem_toArray, List.getElem_cons_succ, List.getElem_cons_zero, List.setIfInBounds_toArray, List.set_cons_zero, List.set_cons_succ])
                            refine wpAnyH_done (by kernel_rfl) ?_ _
                            go_wp2
                            exact ⟨⟨b + 1, by go_num, by omega, by with_reducible (repeat' first | assumption | exact Below.refl _ _ | refine Below.drew ?_ | refine bdrewN ?_ _ | refine Below.setCell ?_ (by first | exact Nat.le_refl _ | (simp; done) | (simp; omega) | omega) _ | refine Below.alloc ?_ (by first | exact Nat.le_refl _ | (simp; done) | (simp; omega) | omega) _)⟩, by simp [intOf]; omega⟩
                        · have d12 : decide ((a : Int) < 12) = false := decide_eq_false h12
                          go_wp2
                          refine wp_region_held_drew (S := (fun w' => w'.cell? ⟨g, a * 4, none⟩ = some (.int .i64 e.r) ∧ w'.cell? ⟨g, a * 4 + 1, none⟩ = some (.int .i64 e.c) ∧ w'.cell? ⟨g, a * 4 + 2, none⟩ = some (.int .i64 e.t) ∧ w'.cell? ⟨g, b * 4, none⟩ = some (.int .i64 f.r) ∧ w'.cell? ⟨g, b * 4 + 1, none⟩ = some (.int .i64 f.c) ∧ w'.cell? ⟨g, b * 4 + 3, none⟩ = some (.int .i64 f.v))) (by kernel_rfl) (by (try dsimp only); ((repeat' apply And.intro) <;> (first | (go_keep; done) | (go_simp; done)))) (fun hHeld => ?_)
                          refine tkT 0 (.int .i64 a) rfl ?_
                          (try simp only [Act.put, List.getElem_toArray, List.getElem_cons_succ, List.getElem_cons_zero, List.setIfInBounds_toArray, List.set_cons_zero, List.set_cons_succ])
                          refine tkT 1 (.bool false) rfl ?_
                          (try simp only [Act.put, List.getElem_toArray, List.getElem_cons_succ, List.getElem_cons_zero, List.setIfInBounds_toArray, List.set_cons_zero, List.set_cons_succ])
                          refine tkT 2 (.bool false) rfl ?_
                          (try simp only [Act.put, List.getElem_toArray, List.getElem_cons_succ, List.getElem_cons_zero, List.setIfInBounds_toArray, List.set_cons_zero, List.set_cons_succ])
                          refine tkU 3 rfl ?_
                          (try simp only [Act.put, List.getElem_toArray, List.getElem_cons_succ, List.getElem_cons_zero, List.setIfInBounds_toArray, List.set_cons_zero, List.set_cons_succ])
                          refine tkU 4 rfl ?_
                          (try simp only [Act.put, List.getElem_toArray, List.getElem_cons_succ, List.getElem_cons_zero, List.setIfInBounds_toArray, List.set_cons_zero, List.set_cons_succ])
                          refine tkT 5 (.bool false) rfl ?_
                          (try simp only [Act.put, List.getElem_toArray, List.getElem_cons_succ, List.getElem_cons_zero, List.setIfInBounds_toArray, List.set_cons_zero, List.set_cons_succ])
                          refine tkT 6 (.bool false) rfl ?_
                          (try simp only [Act.put, List.getElem_toArray, List.getElem_cons_succ, List.getElem_cons_zero, List.setIfInBounds_toArray, List.set_cons_zero, List.set_cons_succ])
                          refine tkU 7 rfl ?_
                          (try simp only [Act.put, List.getElem_toArray, List.getElem_cons_succ, List.getElem_cons_zero, List.setIfInBounds_toArray, List.set_cons_zero, List.set_cons_succ])
                          refine tkU 8 rfl ?_
                          refine tkU 9 rfl ?_
                          refine tkU 10 rfl ?_
                          refine tkU 11 rfl ?_
                          (try simp only [Act.put, List.getElem_toArray, List.getElem_cons_succ, List.getElem_cons_zero, List.setIfInBounds_toArray, List.set_cons_zero, List.set_cons_succ])
                          refine tkU 12 rfl ?_
                          refine tkU 13 rfl ?_
                          refine tkU 14 rfl ?_
                          refine tkU 15 rfl ?_
                          (try simp only [Act.put, List.getElem_toArray, List.getElem_cons_succ, List.getElem_cons_zero, List.setIfInBounds_toArray, List.set_cons_zero, List.set_cons_succ])
                          refine tkU 16 rfl ?_
                          refine tkU 17 rfl ?_
                          refine tkU 18 rfl ?_
                          refine tkU 19 rfl ?_
                          (try simp only [Act.put, List.getElem_toArray, List.getElem_cons_succ, List.getElem_cons_zero, List.setIfInBounds_toArray, List.set_cons_zero, List.set_cons_succ])
                          refine tkU 20 rfl ?_
                          refine tkU 21 rfl ?_
                          refine tkU 22 rfl ?_
                          refine tkU 23 rfl ?_
                          (try simp only [Act.put, List.getElem_toArray, List.getElem_cons_succ, List.getElem_cons_zero, List.setIfInBounds_toArray, List.set_cons_zero, List.set_cons_succ])
                          refine tkU 24 rfl ?_
                          refine tkU 25 rfl ?_
                          refine tkU 26 rfl ?_
                          refine tkU 27 rfl ?_
                          (try simp only [Act.put, List.getElem_toArray, List.getElem_cons_succ, List.getElem_cons_zero, List.setIfInBounds_toArray, List.set_cons_zero, List.set_cons_succ])
                          refine tkU 28 rfl ?_
                          refine tkU 29 rfl ?_
                          refine tkU 30 rfl ?_
                          (try simp only [Act.put, List.getElem_toArray, List.getElem_cons_succ, List.getElem_cons_zero, List.setIfInBounds_toArray, List.set_cons_zero, List.set_cons_succ])
                          refine tkT 31 (.bool false) rfl ?_
                          (try simp only [Act.put, List.getElem_toArray, List.getElem_cons_succ, List.getElem_cons_zero, List.setIfInBounds_toArray, List.set_cons_zero, List.set_cons_succ])
                          refine wpAnyH_done (by kernel_rfl) ?_ _
                          go_wp2
                          exact ⟨⟨b + 1, by go_num, by omega, by with_reducible (repeat' first | assumption | exact Below.refl _ _ | refine Below.drew ?_ | refine bdrewN ?_ _ | refine Below.setCell ?_ (by first | exact Nat.le_refl _ | (simp; done) | (simp; omega) | omega) _ | refine Below.alloc ?_ (by first | exact Nat.le_refl _ | (simp; done) | (simp; omega) | omega) _)⟩, by simp [intOf]; omega⟩
                      · have hbm' : ¬ ((b : Int) < m6) := by omega
                        go_wp2
                        exact ⟨⟨a + 1, by go_num, by omega, by with_reducible (repeat' first | assumption | exact Below.refl _ _ | refine Below.drew ?_ | refine bdrewN ?_ _ | refine Below.setCell ?_ (by first | exact Nat.le_refl _ | (simp; done) | (simp; omega) | omega) _ | refine Below.alloc ?_ (by first | exact Nat.le_refl _ | (simp; done) | (simp; omega) | omega) _)⟩, by simp [intOf]; omega⟩
                  · have ham' : ¬ ((a : Int) < m6) := by omega
                    go_wp2
                    exact ⟨⟨i + 1, (.slice q6 m6 cap6), l6, T6, V6, la6, tu6, S6, L6, rfl, by go_num, by omega, by first | omega | (simp; omega), (show Cz _ _ _ _ _ _ _ _ _ from HC5.out.keep (by with_reducible (repeat' first | assumption | exact Below.refl _ _ | refine Below.drew ?_ | refine bdrewN ?_ _ | refine Below.setCell ?_ (by first | exact Nat.le_refl _ | (simp; done) | (simp; omega) | omega) _ | refine Below.alloc ?_ (by first | exact Nat.le_refl _ | (simp; done) | (simp; omega) | omega) _))), (show RowG _ _ _ _ _ _ _ from HR5.out.keep (by with_reducible (repeat' first | assumption | exact Below.refl _ _ | refine Below.drew ?_ | refine bdrewN ?_ _ | refine Below.setCell ?_ (by first | exact Nat.le_refl _ | (simp; done) | (simp; omega) | omega) _ | refine Below.alloc ?_ (by first | exact Nat.le_refl _ | (simp; done) | (simp; omega) | omega) _))), (show Wn _ _ _ _ _ from HW5.out), hB5.trans ((show Below W5.heap.size W5 _ from by with_reducible (repeat' first | assumption | exact Below.refl _ _ | refine Below.drew ?_ | refine bdrewN ?_ _ | refine Below.setCell ?_ (by first | exact Nat.le_refl _ | (simp; done) | (simp; omega) | omega) _ | refine Below.alloc ?_ (by first | exact Nat.le_refl _ | (simp; done) | (simp; omega) | omega) _)).mono z5)⟩, by simp [intOf]; omega⟩
      · by_cases hk1 : op.k = 1
        · cases hmy : mayC op.r op.c with
          | false =>
            have HMY : Hid (mayC op.r op.c = false) := hmy
            have HMy : Hid (∀ W, Calls Try.prog 8 #[.agg #[.int .i64 op.r, .int .i64 op.c]] W fun e w' => e = .returned (.bool false) ∧ Below W.heap.size W w') := (show _ from fun W => by have := rmay_any op.r op.c W; rw [hmy] at this; exact this)
            clear hmy hq5
            go_wp2_with (first
                              | (go_at_call 7; refine (lat_any _ _ _ _ _ _ (HR.out.keep (by with_reducible (repeat' first | assumption | exact Below.refl _ _ | refine Below.drew ?_ | refine bdrewN ?_ _ | refine Below.setCell ?_ (by first | exact Nat.le_refl _ | (simp; done) | (simp; omega) | omega) _ | refine Below.alloc ?_ (by first | exact Nat.le_refl _ | (simp; done) | (simp; omega) | omega) _))) HLl.out).mono ?_; rintro e w1 ⟨p, rfl, _, hb⟩; have hB1 : Below w.heap.size w w1 := bup (by with_reducible (repeat' first | assumption | exact Below.refl _ _ | refine Below.drew ?_ | refine bdrewN ?_ _ | refine Below.setCell ?_ (by first | exact Nat.le_refl _ | (simp; done) | (simp; omega) | omega) _ | refine Below.alloc ?_ (by first | exact Nat.le_refl _ | (simp; done) | (simp; omega) | omega) _)) hb; have hR1 : Below wr.heap.size wr w1 := bup (by with_reducible (repeat' first | assumption | exact Below.refl _ _ | refine Below.drew ?_ | refine bdrewN ?_ _ | refine Below.setCell ?_ (by first | exact Nat.le_refl _ | (simp; done) | (simp; omega) | omega) _ | refine Below.alloc ?_ (by first | exact Nat.le_refl _ | (simp; done) | (simp; omega) | omega) _)) hb; have oX1 : Own w1 wr.heap.size #[.int .i64 1, .int .i64 op.r, .int .i64 op.c, .int .i64 op.r2, .int .i64 op.c2] := Own.keep (by with_reducible (repeat' first | assumption | refine Own.drew ?_ | refine Own.drewN ?_ _ | (refine Own.at ?_; first | rfl | (simp; done)) | refine Own.past ?_ _)) hb; have x10 : w1.cell? ⟨wr.heap.size, 0, none⟩ = some (.int .i64 1) := oX1.cell 0; have x11 : w1.cell? ⟨wr.heap.size, 1, none⟩ = some (.int .i64 op.r) := oX1.cell 1; have x12 : w1.cell? ⟨wr.heap.size, 2, none⟩ = some (.int .i64 op.c) := oX1.cell 2; have lX1 := oX1.lt; clear hb)
                              | (go_at_call 8; refine (HMy.out _).mono ?_; rintro e w2 ⟨rfl, hb⟩; have hB2 : Below w.heap.size w w2 := bup (by with_reducible (repeat' first | assumption | exact Below.refl _ _ | refine Below.drew ?_ | refine bdrewN ?_ _ | refine Below.setCell ?_ (by first | exact Nat.le_refl _ | (simp; done) | (simp; omega) | omega) _ | refine Below.alloc ?_ (by first | exact Nat.le_refl _ | (simp; done) | (simp; omega) | omega) _)) hb; have hR2 : Below wr.heap.size wr w2 := bup (by with_reducible (repeat' first | assumption | exact Below.refl _ _ | refine Below.drew ?_ | refine bdrewN ?_ _ | refine Below.setCell ?_ (by first | exact Nat.le_refl _ | (simp; done) | (simp; omega) | omega) _ | refine Below.alloc ?_ (by first | exact Nat.le_refl _ | (simp; done) | (simp; omega) | omega) _)) hb; have oX2 : Own w2 wr.heap.size #[.int .i64 1, .int .i64 op.r, .int .i64 op.c, .int .i64 op.r2, .int .i64 op.c2] := Own.keep (by with_reducible (repeat' first | assumption | refine Own.drew ?_ | refine Own.drewN ?_ _ | (refine Own.at ?_; first | rfl | (simp; done)) | refine Own.past ?_ _)) hb; have x20 : w2.cell? ⟨wr.heap.size, 0, none⟩ = some (.int .i64 1) := oX2.cell 0; have x21 : w2.cell? ⟨wr.heap.size, 1, none⟩ = some (.int .i64 op.r) := oX2.cell 1; have x22 : w2.cell? ⟨wr.heap.size, 2, none⟩ = some (.int .i64 op.c) := oX2.cell 2; have lX2 := oX2.lt; have HX2 : Hid (Nx w.heap.size w2 N most last turns S i L (.slice q0 m cap5) l5 wr.heap.size #[.int .i64 1, .int .i64 op.r, .int .i64 op.c, .int .i64 op.r2, .int .i64 op.c2]) := (show Nx _ _ _ _ _ _ _ _ _ _ _ _ _ from Nx.begin HC.out HR.out hR2 oX2 (Nat.le_refl _) (by omega)); clear hb)
                              | (go_at_call 9; refine (nx_see (HX2.out.keep (by with_reducible (repeat' first | assumption | exact Below.refl _ _ | refine Below.drew ?_ | refine bdrewN ?_ _ | refine Below.setCell ?_ (by first | exact Nat.le_refl _ | (simp; done) | (simp; omega) | omega) _ | refine Below.alloc ?_ (by first | exact Nat.le_refl _ | (simp; done) | (simp; omega) | omega) _))) (by omega) op.r op.c ok1 ok2 (by omega)).mono ?_; rintro e w3 ⟨rfl, q1, q2⟩; rw [see_no HMY.out] at q1; have HX3 : Hid (Nx w.heap.size w3 N most last turns S (i + 1) (⟨op.r, op.c⟩ :: L) (.slice q0 m cap5) l5 wr.heap.size #[.int .i64 1, .int .i64 op.r, .int .i64 op.c, .int .i64 op.r2, .int .i64 op.c2]) := q1; have hB3 : Below w.heap.size w w3 := (show Below w.heap.size w _ from by with_reducible (repeat' first | assumption | exact Below.refl _ _ | refine Below.drew ?_ | refine bdrewN ?_ _ | refine Below.setCell ?_ (by first | exact Nat.le_refl _ | (simp; done) | (simp; omega) | omega) _ | refine Below.alloc ?_ (by first | exact Nat.le_refl _ | (simp; done) | (simp; omega) | omega) _)).trans q2; have z3 := hB3.size; have oX3 := HX3.out.own; have x30 : w3.cell? ⟨wr.heap.size, 0, none⟩ = some (.int .i64 1) := oX3.cell 0; have x31 : w3.cell? ⟨wr.heap.size, 1, none⟩ = some (.int .i64 op.r) := oX3.cell 1; have x32 : w3.cell? ⟨wr.heap.size, 2, none⟩ = some (.int .i64 op.c) := oX3.cell 2; have lX3 := oX3.lt; clear q1 q2))
            exact ⟨⟨i + 1, (.slice q0 m cap5), l5, T, V, last, turns, S, (⟨op.r, op.c⟩ :: L), rfl, by go_num, by omega, by first | omega | (simp; omega), (show Cz _ _ _ _ _ _ _ _ _ from (HX3.out.czF).keep (by with_reducible (repeat' first | assumption | exact Below.refl _ _ | refine Below.drew ?_ | refine bdrewN ?_ _ | refine Below.setCell ?_ (by first | exact Nat.le_refl _ | (simp; done) | (simp; omega) | omega) _ | refine Below.alloc ?_ (by first | exact Nat.le_refl _ | (simp; done) | (simp; omega) | omega) _))), (show RowG _ _ _ _ _ _ _ from (HX3.out.row).keep (by with_reducible (repeat' first | assumption | exact Below.refl _ _ | refine Below.drew ?_ | refine bdrewN ?_ _ | refine Below.setCell ?_ (by first | exact Nat.le_refl _ | (simp; done) | (simp; omega) | omega) _ | refine Below.alloc ?_ (by first | exact Nat.le_refl _ | (simp; done) | (simp; omega) | omega) _))), (show Wn _ _ _ _ _ from HW.out.more), by with_reducible (repeat' first | assumption | exact Below.refl _ _ | refine Below.drew ?_ | refine bdrewN ?_ _ | refine Below.setCell ?_ (by first | exact Nat.le_refl _ | (simp; done) | (simp; omega) | omega) _ | refine Below.alloc ?_ (by first | exact Nat.le_refl _ | (simp; done) | (simp; omega) | omega) _)⟩, by simp [intOf]; omega⟩
          | true =>
            have HMY : Hid (mayC op.r op.c = true) := hmy
            have HMy : Hid (∀ W, Calls Try.prog 8 #[.agg #[.int .i64 op.r, .int .i64 op.c]] W fun e w' => e = .returned (.bool true) ∧ Below W.heap.size W w') := (show _ from fun W => by have := rmay_any op.r op.c W; rw [hmy] at this; exact this)
            clear hmy
            by_cases hio : ∀ e ∈ l5, ¬ (e.r = op.r ∧ e.c = op.c)
            · as_aux_lemma =>
                have HOUT : Hid (∀ e ∈ l5, ¬ (e.r = op.r ∧ e.c = op.c)) := hio
                clear hio hq5
                go_wp2_with (first
                              | (go_at_call 7; refine (lat_out _ _ _ _ _ _ (HR.out.keep (by with_reducible (repeat' first | assumption | exact Below.refl _ _ | refine Below.drew ?_ | refine bdrewN ?_ _ | refine Below.setCell ?_ (by first | exact Nat.le_refl _ | (simp; done) | (simp; omega) | omega) _ | refine Below.alloc ?_ (by first | exact Nat.le_refl _ | (simp; done) | (simp; omega) | omega) _))) HLl.out HOUT.out).mono ?_; rintro e w1 ⟨rfl, hb⟩; rw [← HM.out]; have hB1 : Below w.heap.size w w1 := bup (by with_reducible (repeat' first | assumption | exact Below.refl _ _ | refine Below.drew ?_ | refine bdrewN ?_ _ | refine Below.setCell ?_ (by first | exact Nat.le_refl _ | (simp; done) | (simp; omega) | omega) _ | refine Below.alloc ?_ (by first | exact Nat.le_refl _ | (simp; done) | (simp; omega) | omega) _)) hb; have hR1 : Below wr.heap.size wr w1 := bup (by with_reducible (repeat' first | assumption | exact Below.refl _ _ | refine Below.drew ?_ | refine bdrewN ?_ _ | refine Below.setCell ?_ (by first | exact Nat.le_refl _ | (simp; done) | (simp; omega) | omega) _ | refine Below.alloc ?_ (by first | exact Nat.le_refl _ | (simp; done) | (simp; omega) | omega) _)) hb; have oX1 : Own w1 wr.heap.size #[.int .i64 1, .int .i64 op.r, .int .i64 op.c, .int .i64 op.r2, .int .i64 op.c2] := Own.keep (by with_reducible (repeat' first | assumption | refine Own.drew ?_ | refine Own.drewN ?_ _ | (refine Own.at ?_; first | rfl | (simp; done)) | refine Own.past ?_ _)) hb; have x10 : w1.cell? ⟨wr.heap.size, 0, none⟩ = some (.int .i64 1) := oX1.cell 0; have x11 : w1.cell? ⟨wr.heap.size, 1, none⟩ = some (.int .i64 op.r) := oX1.cell 1; have x12 : w1.cell? ⟨wr.heap.size, 2, none⟩ = some (.int .i64 op.c) := oX1.cell 2; have lX1 := oX1.lt; clear hb)
                              | (go_at_call 8; refine (HMy.out _).mono ?_; rintro e w2 ⟨rfl, hb⟩; have hB2 : Below w.heap.size w w2 := bup (by with_reducible (repeat' first | assumption | exact Below.refl _ _ | refine Below.drew ?_ | refine bdrewN ?_ _ | refine Below.setCell ?_ (by first | exact Nat.le_refl _ | (simp; done) | (simp; omega) | omega) _ | refine Below.alloc ?_ (by first | exact Nat.le_refl _ | (simp; done) | (simp; omega) | omega) _)) hb; have hR2 : Below wr.heap.size wr w2 := bup (by with_reducible (repeat' first | assumption | exact Below.refl _ _ | refine Below.drew ?_ | refine bdrewN ?_ _ | refine Below.setCell ?_ (by first | exact Nat.le_refl _ | (simp; done) | (simp; omega) | omega) _ | refine Below.alloc ?_ (by first | exact Nat.le_refl _ | (simp; done) | (simp; omega) | omega) _)) hb; have oX2 : Own w2 wr.heap.size #[.int .i64 1, .int .i64 op.r, .int .i64 op.c, .int .i64 op.r2, .int .i64 op.c2] := Own.keep (by with_reducible (repeat' first | assumption | refine Own.drew ?_ | refine Own.drewN ?_ _ | (refine Own.at ?_; first | rfl | (simp; done)) | refine Own.past ?_ _)) hb; have x20 : w2.cell? ⟨wr.heap.size, 0, none⟩ = some (.int .i64 1) := oX2.cell 0; have x21 : w2.cell? ⟨wr.heap.size, 1, none⟩ = some (.int .i64 op.r) := oX2.cell 1; have x22 : w2.cell? ⟨wr.heap.size, 2, none⟩ = some (.int .i64 op.c) := oX2.cell 2; have lX2 := oX2.lt; have HX2 : Hid (Nx w.heap.size w2 N most last turns S i L (.slice q0 m cap5) l5 wr.heap.size #[.int .i64 1, .int .i64 op.r, .int .i64 op.c, .int .i64 op.r2, .int .i64 op.c2]) := (show Nx _ _ _ _ _ _ _ _ _ _ _ _ _ from Nx.begin HC.out HR.out hR2 oX2 (Nat.le_refl _) (by omega)); clear hb)
                              | (go_at_call 9; refine (nx_see (HX2.out.keep (by with_reducible (repeat' first | assumption | exact Below.refl _ _ | refine Below.drew ?_ | refine bdrewN ?_ _ | refine Below.setCell ?_ (by first | exact Nat.le_refl _ | (simp; done) | (simp; omega) | omega) _ | refine Below.alloc ?_ (by first | exact Nat.le_refl _ | (simp; done) | (simp; omega) | omega) _))) (by omega) op.r op.c ok1 ok2 (by omega)).mono ?_; rintro e w3 ⟨rfl, q1, q2⟩; obtain ⟨S3, hS3⟩ : ∃ S3, S3 = seeS S last op.r op.c := ⟨_, rfl⟩; rw [← hS3] at q1; have HS3 : Hid (S3 = seeS S last op.r op.c) := hS3; clear hS3; have HX3 : Hid (Nx w.heap.size w3 N most last turns S3 (i + 1) (⟨op.r, op.c⟩ :: L) (.slice q0 m cap5) l5 wr.heap.size #[.int .i64 1, .int .i64 op.r, .int .i64 op.c, .int .i64 op.r2, .int .i64 op.c2]) := q1; have hB3 : Below w.heap.size w w3 := (show Below w.heap.size w _ from by with_reducible (repeat' first | assumption | exact Below.refl _ _ | refine Below.drew ?_ | refine bdrewN ?_ _ | refine Below.setCell ?_ (by first | exact Nat.le_refl _ | (simp; done) | (simp; omega) | omega) _ | refine Below.alloc ?_ (by first | exact Nat.le_refl _ | (simp; done) | (simp; omega) | omega) _)).trans q2; have z3 := hB3.size; have oX3 := HX3.out.own; have x30 : w3.cell? ⟨wr.heap.size, 0, none⟩ = some (.int .i64 1) := oX3.cell 0; have x31 : w3.cell? ⟨wr.heap.size, 1, none⟩ = some (.int .i64 op.r) := oX3.cell 1; have x32 : w3.cell? ⟨wr.heap.size, 2, none⟩ = some (.int .i64 op.c) := oX3.cell 2; have lX3 := oX3.lt; clear q1 q2)
                              | (go_loud (at_builtin; refine wpList_appx rfl _ _ _ _ rfl _ (.slice (some ⟨w3.heap.size, 0, none⟩) 1 1) rfl rfl (HAP.out _ _ _ w3.heap.size ⟨op.r, op.c, 0, 0⟩ (RowG.keep HX3.out.row (by with_reducible (repeat' first | assumption | exact Below.refl _ _ | refine Below.drew ?_ | refine bdrewN ?_ _ | refine Below.setCell ?_ (by first | exact Nat.le_refl _ | (simp; done) | (simp; omega) | omega) _ | refine Below.alloc ?_ (by first | exact Nat.le_refl _ | (simp; done) | (simp; omega) | omega) _))) (heap_at (by simp)) (by simp; omega) HLl.out) (fun v' w4 hq => ?_); obtain ⟨r1, r2, r3, r4⟩ := hq; obtain ⟨g, cap7, rfl, hc7, hc7'⟩ := row_some r1; rw [← HM.out] at r1 r3 hc7 ⊢; have HX4 : Hid (Nx w.heap.size w4 N most last turns S3 (i + 1) (⟨op.r, op.c⟩ :: L) (.slice (some ⟨g, 0, none⟩) (m + 1) cap7) (l5 ++ [⟨op.r, op.c, 0, 0⟩]) wr.heap.size #[.int .i64 1, .int .i64 op.r, .int .i64 op.c, .int .i64 op.r2, .int .i64 op.c2]) := (show Nx _ _ _ _ _ _ _ _ _ _ _ _ _ from (HX3.out.keep (by with_reducible (repeat' first | assumption | exact Below.refl _ _ | refine Below.drew ?_ | refine bdrewN ?_ _ | refine Below.setCell ?_ (by first | exact Nat.le_refl _ | (simp; done) | (simp; omega) | omega) _ | refine Below.alloc ?_ (by first | exact Nat.le_refl _ | (simp; done) | (simp; omega) | omega) _))).app r1 r3 r4); have hB4 : Below w.heap.size w w4 := (show Below w.heap.size w _ from by with_reducible (repeat' first | assumption | exact Below.refl _ _ | refine Below.drew ?_ | refine bdrewN ?_ _ | refine Below.setCell ?_ (by first | exact Nat.le_refl _ | (simp; done) | (simp; omega) | omega) _ | refine Below.alloc ?_ (by first | exact Nat.le_refl _ | (simp; done) | (simp; omega) | omega) _)).trans r2; have z4 := hB4.size; have oX4 := HX4.out.own; have x40 : w4.cell? ⟨wr.heap.size, 0, none⟩ = some (.int .i64 1) := oX4.cell 0; have x41 : w4.cell? ⟨wr.heap.size, 1, none⟩ = some (.int .i64 op.r) := oX4.cell 1; have x42 : w4.cell? ⟨wr.heap.size, 2, none⟩ = some (.int .i64 op.c) := oX4.cell 2; have lX4 := oX4.lt; have HF : Hid ((l5 ++ [(⟨op.r, op.c, 0, 0⟩ : We)])[m]? = some ⟨op.r, op.c, 0, 0⟩) := (show _ = _ from by rw [HM.out]; simp); have gj : w4.cell? ⟨g, m * 4 + 3, none⟩ = some (.int .i64 0) := row_at HX4.out.row HF.out 3 _ rfl; have gf : w4.frozen? ⟨g, m * 4 + 3, none⟩ = false := row_fro HX4.out.row _; have lg : g < w4.heap.size := (HX4.out.row.lt g rfl).2; clear r1 r2 r3 r4)))
                obtain ⟨W5, hW5⟩ : ∃ W5 : World, W5 = w4.setCell ⟨g, m * 4 + 3, none⟩ (.int .i64 ((i : Int) + 1)) := ⟨_, rfl⟩
                obtain ⟨q6, m6, cap6, hv6, l6, T6, V6, la6, tu6, S6, L6, hl6, HC5, HR5, HW5⟩ : ∃ (q6 : Option Addr) (m6 cap6 : Nat), Value.slice (some ⟨g, 0, none⟩) (m + 1) cap7 = .slice q6 m6 cap6 ∧ ∃ (l6 : List We) (T6 V6 : Int → Int → Int) (la6 tu6 : Int) (S6 : St) (L6 : List Cl), l6.length ≤ i + 1 ∧ Hid (Cz (Fv w.heap.size (.slice q6 m6 cap6)) W5 N most la6 tu6 S6 (i + 1) L6) ∧ Hid (RowW W5 w.heap.size (.slice q6 m6 cap6) l6) ∧ Hid (Wn S6 T6 V6 l6 ((i : Int) + 1)) := ⟨(some ⟨g, 0, none⟩), (m + 1), cap7, rfl, ((l5 ++ [(⟨op.r, op.c, 0, 0⟩ : We)]).set m (⟨(⟨op.r, op.c, 0, 0⟩ : We).r, (⟨op.r, op.c, 0, 0⟩ : We).c, (⟨op.r, op.c, 0, 0⟩ : We).t, (i : Int) + 1⟩ : We)), T, (upI V op.r op.c ((i : Int) + 1)), last, turns, S3, (⟨op.r, op.c⟩ :: L), (by first | omega | (simp; omega)), (show Cz _ _ _ _ _ _ _ _ _ from by rw [hW5]; exact (HX4.out.put (e' := (⟨(⟨op.r, op.c, 0, 0⟩ : We).r, (⟨op.r, op.c, 0, 0⟩ : We).c, (⟨op.r, op.c, 0, 0⟩ : We).t, (i : Int) + 1⟩ : We)) (j := 3) (u := (.int .i64 ((i : Int) + 1))) HF.out (by decide) rfl).czF), (show RowG _ _ _ _ _ _ _ from by rw [hW5]; exact (HX4.out.put (e' := (⟨(⟨op.r, op.c, 0, 0⟩ : We).r, (⟨op.r, op.c, 0, 0⟩ : We).c, (⟨op.r, op.c, 0, 0⟩ : We).t, (i : Int) + 1⟩ : We)) (j := 3) (u := (.int .i64 ((i : Int) + 1))) HF.out (by decide) rfl).row), (show Wn _ _ _ _ _ from by rw [HS3.out]; exact ((HW.out.app ok1 ok2 HOUT.out)).se HX2.out.cz.low HMY.out HF.out rfl rfl)⟩
                have hB5 : Below w.heap.size w W5 := (by rw [hW5]; exact hB4.trans (HX4.out.putB (.int .i64 ((i : Int) + 1))))
                rw [hv6, ← hW5]
                clear hW5 hv6
                clear HX2 HC HR HW HMy
                obtain ⟨hml, hmc, hmc2, hq5⟩ := row_q HR5.out
                have HQ5 : Hid _ := hq5
                have HL6 : Hid (m6 = l6.length) := hml
                have b5 : Below W5.heap.size W5 W5 := Below.refl _ _
                have z5 := hB5.size
                clear hq5 hml
                go_loopw [13] (fun u w' => ∃ a : Nat, u = .int .i64 a ∧ a ≤ m6 ∧ Below W5.heap.size W5 w') (fun u _ => m6 - (intOf u).toNat)
                case atStart => exact ⟨0, rfl, by omega, b5⟩
                case round =>
                  clear b5
                  obtain ⟨a, rfl, ha, hB6⟩ := hrel
                  have z6 := hB6.size
                  by_cases ham : a < m6
                  · have ham' : (a : Int) < m6 := by omega
                    go_wp2
                    go_loopw [14] (fun u w' => ∃ b : Nat, u = .int .i64 b ∧ b ≤ m6 ∧ Below W5.heap.size W5 w') (fun u _ => m6 - (intOf u).toNat)
                    case atStart => exact ⟨0, rfl, by omega, by with_reducible (repeat' first | assumption | exact Below.refl _ _ | refine Below.drew ?_ | refine bdrewN ?_ _ | refine Below.setCell ?_ (by first | exact Nat.le_refl _ | (simp; done) | (simp; omega) | omega) _ | refine Below.alloc ?_ (by first | exact Nat.le_refl _ | (simp; done) | (simp; omega) | omega) _)⟩
                    case round =>
                      clear hB6 z6
                      obtain ⟨b, rfl, hb, hB7⟩ := hrel
                      have z7 := hB7.size
                      by_cases hbm : b < m6
                      · have hbm' : (b : Int) < m6 := by omega
                        obtain ⟨e, he⟩ : ∃ e, l6[a]? = some e := ⟨_, List.getElem?_eq_getElem (by have := HL6.out; omega)⟩
                        obtain ⟨f, hf⟩ : ∃ f, l6[b]? = some f := ⟨_, List.getElem?_eq_getElem (by have := HL6.out; omega)⟩
                        obtain ⟨g, rfl, hg, hcl⟩ := HQ5.out (by omega)
                        have e0 : wr.cell? ⟨g, a * 4, none⟩ = some (.int .i64 e.r) := (hB7.cell (p := ⟨g, a * 4, none⟩) hg).trans (hcl a e he 0 _ rfl)
                        have e1 : wr.cell? ⟨g, a * 4 + 1, none⟩ = some (.int .i64 e.c) := (hB7.cell (p := ⟨g, a * 4 + 1, none⟩) hg).trans (hcl a e he 1 _ rfl)
                        have e2 : wr.cell? ⟨g, a * 4 + 2, none⟩ = some (.int .i64 e.t) := (hB7.cell (p := ⟨g, a * 4 + 2, none⟩) hg).trans (hcl a e he 2 _ rfl)
                        have f0 : wr.cell? ⟨g, b * 4, none⟩ = some (.int .i64 f.r) := (hB7.cell (p := ⟨g, b * 4, none⟩) hg).trans (hcl b f hf 0 _ rfl)
                        have f1 : wr.cell? ⟨g, b * 4 + 1, none⟩ = some (.int .i64 f.c) := (hB7.cell (p := ⟨g, b * 4 + 1, none⟩) hg).trans (hcl b f hf 1 _ rfl)
                        have f3 : wr.cell? ⟨g, b * 4 + 3, none⟩ = some (.int .i64 f.v) := (hB7.cell (p := ⟨g, b * 4 + 3, none⟩) hg).trans (hcl b f hf 3 _ rfl)
                        have lg : g < wr.heap.size := by omega
                        have HDC : Hid (∀ W, Below W5.heap.size W5 W → Calls Try.prog 12 #[.pointer (some ⟨N, 0, none⟩), .agg #[.int .i64 e.r, .int .i64 e.c], .agg #[.int .i64 f.r, .int .i64 f.c]] W fun e' w' => e' = .returned (.bool (decide (f.v < e.t))) ∧ Below W.heap.size W w') := (show _ from fun W h1 => (cz_newer (HC5.out.keep h1) e.r e.c f.r f.c (HW5.out.i64 e (List.mem_of_getElem? he)).1 (HW5.out.i64 e (List.mem_of_getElem? he)).2 (HW5.out.i64 f (List.mem_of_getElem? hf)).1 (HW5.out.i64 f (List.mem_of_getElem? hf)).2).mono (fun e' w' q => by rw [dec_newer HW5.out he hf] at q; exact q))
                        clear hcl he hf
                        by_cases h12 : (a : Int) < 12
                        · have d12 : decide ((a : Int) < 12) = true := decide_eq_true h12
                          by_cases h13 : (b : Int) < 12
                          · have d13 : decide ((b : Int) < 12) = true := decide_eq_true h13
                            go_wp2
                            refine wp_region_held_drew (S := (fun w' => w'.cell? ⟨g, a * 4, none⟩ = some (.int .i64 e.r) ∧ w'.cell? ⟨g, a * 4 + 1, none⟩ = some (.int .i64 e.c) ∧ w'.cell? ⟨g, a * 4 + 2, none⟩ = some (.int .i64 e.t) ∧ w'.cell? ⟨g, b * 4, none⟩ = some (.int .i64 f.r) ∧ w'.cell? ⟨g, b * 4 + 1, none⟩ = some (.int .i64 f.c) ∧ w'.cell? ⟨g, b * 4 + 3, none⟩ = some (.int .i64 f.v))) (by kernel_rfl) (by (try dsimp only); ((repeat' apply And.intro) <;> (first | (go_keep; done) | (go_simp; done)))) (fun hHeld => ?_)
                            refine tkT 0 (.int .i64 a) rfl ?_
                            (try simp only [Act.put, List.getElem_toArray, List.getElem_cons_succ, List.getElem_cons_zero, List.setIfInBounds_toArray, List.set_cons_zero, List.set_cons_succ])
                            refine tkT 1 (.bool true) rfl ?_
                            (try simp only [Act.put, List.getElem_toArray, List.getElem_cons_succ, List.getElem_cons_zero, List.setIfInBounds_toArray, List.set_cons_zero, List.set_cons_succ])
                            refine tkT 2 (.bool true) rfl ?_
                            (try simp only [Act.put, List.getElem_toArray, List.getElem_cons_succ, List.getElem_cons_zero, List.setIfInBounds_toArray, List.set_cons_zero, List.set_cons_succ])
                            refine tkT 3 (.int .i64 b) rfl ?_
                            (try simp only [Act.put, List.getElem_toArray, List.getElem_cons_succ, List.getElem_cons_zero, List.setIfInBounds_toArray, List.set_cons_zero, List.set_cons_succ])
                            refine tkT 4 (.bool true) rfl ?_
                            (try simp only [Act.put, List.getElem_toArray, List.getElem_cons_succ, List.getElem_cons_zero, List.setIfInBounds_toArray, List.set_cons_zero, List.set_cons_succ])
                            refine tkT 5 (.bool true) rfl ?_
                            (try simp only [Act.put, List.getElem_toArray, List.getElem_cons_succ, List.getElem_cons_zero, List.setIfInBounds_toArray, List.set_cons_zero, List.set_cons_succ])
                            refine tkT 6 (.bool true) rfl ?_
                            (try simp only [Act.put, List.getElem_toArray, List.getElem_cons_succ, List.getElem_cons_zero, List.setIfInBounds_toArray, List.set_cons_zero, List.set_cons_succ])
                            refine tkT 7 (.pointer (some ⟨N, 0, none⟩)) rfl ?_
                            (try simp only [Act.put, List.getElem_toArray, List.getElem_cons_succ, List.getElem_cons_zero, List.setIfInBounds_toArray, List.set_cons_zero, List.set_cons_succ])
                            refine tkT 8 (.slice (some ⟨g, 0, none⟩) m6 cap6) rfl ?_
                            (try simp only [Act.put, List.getElem_toArray, List.getElem_cons_succ, List.getElem_cons_zero, List.setIfInBounds_toArray, List.set_cons_zero, List.set_cons_succ])
                            refine tkT 9 (.int .i64 a) rfl ?_
                            (try simp only [Act.put, List.getElem_toArray, List.getElem_cons_succ, List.getElem_cons_zero, List.setIfInBounds_toArray, List.set_cons_zero, List.set_cons_succ])
                            refine tkT 10 (.pointer (some ⟨g, a * 4, none⟩)) rfl ?_
                            (try simp only [Act.put, List.getElem_toArray, List.getElem_cons_succ, List.getElem_cons_zero, List.setIfInBounds_toArray, List.set_cons_zero, List.set_cons_succ])
                            refine tkT 11 (.pointer (some ⟨g, a * 4, none⟩)) rfl ?_
                            (try simp only [Act.put, List.getElem_toArray, List.getElem_cons_succ, List.getElem_cons_zero, List.setIfInBounds_toArray, List.set_cons_zero, List.set_cons_succ])
                            refine tkT 12 (.agg #[.int .i64 e.r, .int .i64 e.c]) rfl ?_
                            (try simp only [Act.put, List.getElem_toArray, List.getElem_cons_succ, List.getElem_cons_zero, List.setIfInBounds_toArray, List.set_cons_zero, List.set_cons_succ])
                            refine tkT 13 (.slice (some ⟨g, 0, none⟩) m6 cap6) rfl ?_
                            (try simp only [Act.put, List.getElem_toArray, List.getElem_cons_succ, List.getElem_cons_zero, List.setIfInBounds_toArray, List.set_cons_zero, List.set_cons_succ])
                            refine tkT 14 (.int .i64 b) rfl ?_
                            (try simp only [Act.put, List.getElem_toArray, List.getElem_cons_succ, List.getElem_cons_zero, List.setIfInBounds_toArray, List.set_cons_zero, List.set_cons_succ])
                            refine tkT 15 (.pointer (some ⟨g, b * 4, none⟩)) rfl ?_
                            (try simp only [Act.put, List.getElem_toArray, List.getElem_cons_succ, List.getElem_cons_zero, List.setIfInBounds_toArray, List.set_cons_zero, List.set_cons_succ])
                            refine tkT 16 (.pointer (some ⟨g, b * 4, none⟩)) rfl ?_
                            (try simp only [Act.put, List.getElem_toArray, List.getElem_cons_succ, List.getElem_cons_zero, List.setIfInBounds_toArray, List.set_cons_zero, List.set_cons_succ])
                            refine tkT 17 (.agg #[.int .i64 f.r, .int .i64 f.c]) rfl ?_
                            (try simp only [Act.put, List.getElem_toArray, List.getElem_cons_succ, List.getElem_cons_zero, List.setIfInBounds_toArray, List.set_cons_zero, List.set_cons_succ])
                            refine tkT 19 (.slice (some ⟨g, 0, none⟩) m6 cap6) rfl ?_
                            (try simp only [Act.put, List.getElem_toArray, List.getElem_cons_succ, List.getElem_cons_zero, List.setIfInBounds_toArray, List.set_cons_zero, List.set_cons_succ])
                            refine tkT 20 (.int .i64 a) rfl ?_
                            (try simp only [Act.put, List.getElem_toArray, List.getElem_cons_succ, List.getElem_cons_zero, List.setIfInBounds_toArray, List.set_cons_zero, List.set_cons_succ])
                            refine tkT 21 (.pointer (some ⟨g, a * 4, none⟩)) rfl ?_
                            (try simp only [Act.put, List.getElem_toArray, List.getElem_cons_succ, List.getElem_cons_zero, List.setIfInBounds_toArray, List.set_cons_zero, List.set_cons_succ])
                            refine tkT 22 (.pointer (some ⟨g, a * 4 + 2, none⟩)) rfl ?_
                            (try simp only [Act.put, List.getElem_toArray, List.getElem_cons_succ, List.getElem_cons_zero, List.setIfInBounds_toArray, List.set_cons_zero, List.set_cons_succ])
                            refine tkT 23 (.int .i64 e.t) rfl ?_
                            (try simp only [Act.put, List.getElem_toArray, List.getElem_cons_succ, List.getElem_cons_zero, List.setIfInBounds_toArray, List.set_cons_zero, List.set_cons_succ])
                            refine tkT 24 (.slice (some ⟨g, 0, none⟩) m6 cap6) rfl ?_
                            (try simp only [Act.put, List.getElem_toArray, List.getElem_cons_succ, List.getElem_cons_zero, List.setIfInBounds_toArray, List.set_cons_zero, List.set_cons_succ])
                            refine tkT 25 (.int .i64 b) rfl ?_
                            (try simp only [Act.put, List.getElem_toArray, List.getElem_cons_succ, List.getElem_cons_zero, List.setIfInBounds_toArray, List.set_cons_zero, List.set_cons_succ])
                            refine tkT 26 (.pointer (some ⟨g, b * 4, none⟩)) rfl ?_
                            (try simp only [Act.put, List.getElem_toArray, List.getElem_cons_succ, List.getElem_cons_zero, List.setIfInBounds_toArray, List.set_cons_zero, List.set_cons_succ])
                            refine tkT 27 (.pointer (some ⟨g, b * 4 + 3, none⟩)) rfl ?_
                            (try simp only [Act.put, List.getElem_toArray, List.getElem_cons_succ, List.getElem_cons_zero, List.setIfInBounds_toArray, List.set_cons_zero, List.set_cons_succ])
                            refine tkT 28 (.int .i64 f.v) rfl ?_
                            (try simp only [Act.put, List.getElem_toArray, List.getElem_cons_succ, List.getElem_cons_zero, List.setIfInBounds_toArray, List.set_cons_zero, List.set_cons_succ])
                            refine tkT 29 (.bool (decide (f.v < e.t))) rfl ?_
                            (try simp only [Act.put, List.getElem_toArray, List.getElem_cons_succ, List.getElem_cons_zero, List.setIfInBounds_toArray, List.set_cons_zero, List.set_cons_succ])
                            refine wpAnyH_ready (rs := [18]) (by kernel_rfl) (by simp) ?_
                            refine AllReadyH.cons rfl (fun K hK => ?_) ?_
                            · go_simp
                              (go_at_call 12; refine (HDC.out _ (by with_reducible (repeat' first | assumption | exact Below.refl _ _ | refine Below.drew ?_ | refine bdrewN ?_ _ | refine Below.setCell ?_ (by first | exact Nat.le_refl _ | (simp; done) | (simp; omega) | omega) _ | refine Below.alloc ?_ (by first | exact Nat.le_refl _ | (simp; done) | (simp; omega) | omega) _))).mono ?_; rintro e' w8 ⟨rfl, hb8⟩; have hB8 : Below W5.heap.size W5 w8 := bup (by with_reducible (repeat' first | assumption | exact Below.refl _ _ | refine Below.drew ?_ | refine bdrewN ?_ _ | refine Below.setCell ?_ (by first | exact Nat.le_refl _ | (simp; done) | (simp; omega) | omega) _ | refine Below.alloc ?_ (by first | exact Nat.le_refl _ | (simp; done) | (simp; omega) | omega) _)) hb8; have hR8 : Below wr.heap.size wr w8 := bup (by with_reducible (repeat' first | assumption | exact Below.refl _ _ | refine Below.drew ?_ | refine bdrewN ?_ _ | refine Below.setCell ?_ (by first | exact Nat.le_refl _ | (simp; done) | (simp; omega) | omega) _ | refine Below.alloc ?_ (by first | exact Nat.le_refl _ | (simp; done) | (simp; omega) | omega) _)) hb8; have g0 : w8.cell? ⟨g, a * 4, none⟩ = some (.int .i64 e.r) := (hR8.cell (p := ⟨g, a * 4, none⟩) lg).trans e0; have g1 : w8.cell? ⟨g, a * 4 + 1, none⟩ = some (.int .i64 e.c) := (hR8.cell (p := ⟨g, a * 4 + 1, none⟩) lg).trans e1; have g2 : w8.cell? ⟨g, a * 4 + 2, none⟩ = some (.int .i64 e.t) := (hR8.cell (p := ⟨g, a * 4 + 2, none⟩) lg).trans e2; have k0 : w8.cell? ⟨g, b * 4, none⟩ = some (.int .i64 f.r) := (hR8.cell (p := ⟨g, b * 4, none⟩) lg).trans f0; have k1 : w8.cell? ⟨g, b * 4 + 1, none⟩ = some (.int .i64 f.c) := (hR8.cell (p := ⟨g, b * 4 + 1, none⟩) lg).trans f1; have k3 : w8.cell? ⟨g, b * 4 + 3, none⟩ = some (.int .i64 f.v) := (hR8.cell (p := ⟨g, b * 4 + 3, none⟩) lg).trans f3; have lg8 : g < w8.heap.size := (by have := hR8.size; omega); clear hb8)
                              go_wp2_with fail
                              refine hK.out _ _ (by (try dsimp only); first | (with_reducible assumption) | ((repeat' apply And.intro) <;> (first | (go_keep; done) | (go_simp; done)))) (fun hHeld => ?_)
                              clear hK K
                              (try simp only [Act.put, List.getElem_toArray, List.getElem_cons_succ, List.getElem_cons_zero, List.setIfInBounds_toArray, List.set_cons_zero, List.set_cons_succ])
                              refine tkT 30 (.bool false) rfl ?_
                              (try simp only [Act.put, List.getElem_toArray, List.getElem_cons_succ, List.getElem_cons_zero, List.setIfInBounds_toArray, List.set_cons_zero, List.set_cons_succ])
                              refine tkT 31 (.bool false) rfl ?_
                              (try simp only [Act.put, List.getElem_toArray, List.getElem_cons_succ, List.getElem_cons_zero, List.setIfInBounds_toArray, List.set_cons_zero, List.set_cons_succ])
                              refine wpAnyH_done (by kernel_rfl) ?_ _
                              go_wp2
                              exact ⟨⟨b + 1, by go_num, by omega, by with_reducible (repeat' first | assumption | exact Below.refl _ _ | refine Below.drew ?_ | refine bdrewN ?_ _ | refine Below.setCell ?_ (by first | exact Nat.le_refl _ | (simp; done) | (simp; omega) | omega) _ | refine Below.alloc ?_ (by first | exact Nat.le_refl _ | (simp; done) | (simp; omega) | omega) _)⟩, by simp [intOf]; omega⟩
                            exact AllReadyH.nil
                          · have d13 : decide ((b : Int) < 12) = false := decide_eq_false h13
                            go_wp2
                            refine wp_region_held_drew (S := (fun w' => w'.cell? ⟨g, a * 4, none⟩ = some (.int .i64 e.r) ∧ w'.cell? ⟨g, a * 4 + 1, none⟩ = some (.int .i64 e.c) ∧ w'.cell? ⟨g, a * 4 + 2, none⟩ = some (.int .i64 e.t) ∧ w'.cell? ⟨g, b * 4, none⟩ = some (.int .i64 f.r) ∧ w'.cell? ⟨g, b * 4 + 1, none⟩ = some (.int .i64 f.c) ∧ w'.cell? ⟨g, b * 4 + 3, none⟩ = some (.int .i64 f.v))) (by kernel_rfl) (by (try dsimp only); ((repeat' apply And.intro) <;> (first | (go_keep; done) | (go_simp; done)))) (fun hHeld => ?_)
                            refine tkT 0 (.int .i64 a) rfl ?_
                            (try simp only [Act.put, List.getElem_toArray, List.getElem_cons_succ, List.getElem_cons_zero, List.setIfInBounds_toArray, List.set_cons_zero, List.set_cons_succ])
                            refine tkT 1 (.bool true) rfl ?_
                            (try simp only [Act.put, List.getElem_toArray, List.getElem_cons_succ, List.getElem_cons_zero, List.setIfInBounds_toArray, List.set_cons_zero, List.set_cons_succ])
                            refine tkT 2 (.bool true) rfl ?_
                            (try simp only [Act.put, List.getElem_toArray, List.getElem_cons_succ, List.getElem_cons_zero, List.setIfInBounds_toArray, List.set_cons_zero, List.set_cons_succ])
                            refine tkT 3 (.int .i64 b) rfl ?_
                            (try simp only [Act.put, List.getElem_toArray, List.getElem_cons_succ, List.getElem_cons_zero, List.setIfInBounds_toArray, List.set_cons_zero, List.set_cons_succ])
                            refine tkT 4 (.bool false) rfl ?_
                            (try simp only [Act.put, List.getElem_toArray, List.getElem_cons_succ, List.getElem_cons_zero, List.setIfInBounds_toArray, List.set_cons_zero, List.set_cons_succ])
                            refine tkT 5 (.bool false) rfl ?_
                            (try simp only [Act.put, List.getElem_toArray, List.getElem_cons_succ, List.getElem_cons_zero, List.setIfInBounds_toArray, List.set_cons_zero, List.set_cons_succ])
                            refine tkT 6 (.bool false) rfl ?_
                            (try simp only [Act.put, List.getElem_toArray, List.getElem_cons_succ, List.getElem_cons_zero, List.setIfInBounds_toArray, List.set_cons_zero, List.set_cons_succ])
                            refine tkU 7 rfl ?_
                            (try simp only [Act.put, List.getElem_toArray, List.getElem_cons_succ, List.getElem_cons_zero, List.setIfInBounds_toArray, List.set_cons_zero, List.set_cons_succ])
                            refine tkU 8 rfl ?_
                            refine tkU 9 rfl ?_
                            refine tkU 10 rfl ?_
                            refine tkU 11 rfl ?_
                            (try simp only [Act.put, List.getElem_toArray, List.getElem_cons_succ, List.getElem_cons_zero, List.setIfInBounds_toArray, List.set_cons_zero, List.set_cons_succ])
                            refine tkU 12 rfl ?_
                            refine tkU 13 rfl ?_
                            refine tkU 14 rfl ?_
                            refine tkU 15 rfl ?_
                            (try simp only [Act.put, List.getElem_toArray, List.getElem_cons_succ, List.getElem_cons_zero, List.setIfInBounds_toArray, List.set_cons_zero, List.set_cons_succ])
                            refine tkU 16 rfl ?_
                            refine tkU 17 rfl ?_
                            refine tkU 18 rfl ?_
                            refine tkU 19 rfl ?_
                            (try simp only [Act.put, List.getElem_toArray, List.getElem_cons_succ, List.getElem_cons_zero, List.setIfInBounds_toArray, List.set_cons_zero, List.set_cons_succ])
                            refine tkU 20 rfl ?_
                            refine tkU 21 rfl ?_
                            refine tkU 22 rfl ?_
                            refine tkU 23 rfl ?_
                            (try simp only [Act.put, List.getElem_toArray, List.getElem_cons_succ, List.getElem_cons_zero, List.setIfInBounds_toArray, List.set_cons_zero, List.set_cons_succ])
                            refine tkU 24 rfl ?_
                            refine tkU 25 rfl ?_
                            refine tkU 26 rfl ?_
                            refine tkU 27 rfl ?_
                            (try simp only [Act.put, List.getElem_toArray, List.getElem_cons_succ, List.getElem_cons_zero, List.setIfInBounds_toArray, List.set_cons_zero, List.set_cons_succ])
                            refine tkU 28 rfl ?_
                            refine tkU 29 rfl ?_
                            refine tkU 30 rfl ?_
                            (try simp only [Act.put, List.getElem_toArray, List.getElem_cons_succ, List.getElem_cons_zero, List.setIfInBounds_toArray, List.set_cons_zero, List.set_cons_succ])
                            refine tkT 31 (.bool false) rfl ?_
                            (try simp only [Act.put, List.getElem_toArray, List.getElem_cons_succ, List.getElem_cons_zero, List.setIfInBounds_toArray, List.set_cons_zero, List.set_cons_succ])
                            refine wpAnyH_done (by kernel_rfl) ?_ _
                            go_wp2
                            exact ⟨⟨b + 1, by go_num, by omega, by with_reducible (repeat' first | assumption | exact Below.refl _ _ | refine Below.drew ?_ | refine bdrewN ?_ _ | refine Below.setCell ?_ (by first | exact Nat.le_refl _ | (simp; done) | (simp; omega) | omega) _ | refine Below.alloc ?_ (by first | exact Nat.le_refl _ | (simp; done) | (simp; omega) | omega) _)⟩, by simp [intOf]; omega⟩
                        · have d12 : decide ((a : Int) < 12) = false := decide_eq_false h12
                          go_wp2
                          refine wp_region_held_drew (S := (fun w' => w'.cell? ⟨g, a * 4, none⟩ = some (.int .i64 e.r) ∧ w'.cell? ⟨g, a * 4 + 1, none⟩ = some (.int .i64 e.c) ∧ w'.cell? ⟨g, a * 4 + 2, none⟩ = some (.int .i64 e.t) ∧ w'.cell? ⟨g, b * 4, none⟩ = some (.int .i64 f.r) ∧ w'.cell? ⟨g, b * 4 + 1, none⟩ = some (.int .i64 f.c) ∧ w'.cell? ⟨g, b * 4 + 3, none⟩ = some (.int .i64 f.v))) (by kernel_rfl) (by (try dsimp only); ((repeat' apply And.intro) <;> (first | (go_keep; done) | (go_simp; done)))) (fun hHeld => ?_)
                          refine tkT 0 (.int .i64 a) rfl ?_
                          (try simp only [Act.put, List.getElem_toArray, List.getElem_cons_succ, List.getElem_cons_zero, List.setIfInBounds_toArray, List.set_cons_zero, List.set_cons_succ])
                          refine tkT 1 (.bool false) rfl ?_
                          (try simp only [Act.put, List.getElem_toArray, List.getElem_cons_succ, List.getElem_cons_zero, List.setIfInBounds_toArray, List.set_cons_zero, List.set_cons_succ])
                          refine tkT 2 (.bool false) rfl ?_
                          (try simp only [Act.put, List.getElem_toArray, List.getElem_cons_succ, List.getElem_cons_zero, List.setIfInBounds_toArray, List.set_cons_zero, List.set_cons_succ])
                          refine tkU 3 rfl ?_
                          (try simp only [Act.put, List.getElem_toArray, List.getElem_cons_succ, List.getElem_cons_zero, List.setIfInBounds_toArray, List.set_cons_zero, List.set_cons_succ])
                          refine tkU 4 rfl ?_
                          (try simp only [Act.put, List.getElem_toArray, List.getElem_cons_succ, List.getElem_cons_zero, List.setIfInBounds_toArray, List.set_cons_zero, List.set_cons_succ])
                          refine tkT 5 (.bool false) rfl ?_
                          (try simp only [Act.put, List.getElem_toArray, List.getElem_cons_succ, List.getElem_cons_zero, List.setIfInBounds_toArray, List.set_cons_zero, List.set_cons_succ])
                          refine tkT 6 (.bool false) rfl ?_
                          (try simp only [Act.put, List.getElem_toArray, List.getElem_cons_succ, List.getElem_cons_zero, List.setIfInBounds_toArray, List.set_cons_zero, List.set_cons_succ])
                          refine tkU 7 rfl ?_
                          (try simp only [Act.put, List.getElem_toArray, List.getElem_cons_succ, List.getElem_cons_zero, List.setIfInBounds_toArray, List.set_cons_zero, List.set_cons_succ])
                          refine tkU 8 rfl ?_
                          refine tkU 9 rfl ?_
                          refine tkU 10 rfl ?_
                          refine tkU 11 rfl ?_
                          (try simp only [Act.put, List.getElem_toArray, List.getElem_cons_succ, List.getElem_cons_zero, List.setIfInBounds_toArray, List.set_cons_zero, List.set_cons_succ])
                          refine tkU 12 rfl ?_
                          refine tkU 13 rfl ?_
                          refine tkU 14 rfl ?_
                          refine tkU 15 rfl ?_
                          (try simp only [Act.put, List.getElem_toArray, List.getElem_cons_succ, List.getElem_cons_zero, List.setIfInBounds_toArray, List.set_cons_zero, List.set_cons_succ])
                          refine tkU 16 rfl ?_
                          refine tkU 17 rfl ?_
                          refine tkU 18 rfl ?_
                          refine tkU 19 rfl ?_
                          (try simp only [Act.put, List.getElem_toArray, List.getElem_cons_succ, List.getElem_cons_zero, List.setIfInBounds_toArray, List.set_cons_zero, List.set_cons_succ])
                          refine tkU 20 rfl ?_
                          refine tkU 21 rfl ?_
                          refine tkU 22 rfl ?_
                          refine tkU 23 rfl ?_
                          (try simp only [Act.put, List.getElem_toArray, List.getElem_cons_succ, List.getElem_cons_zero, List.setIfInBounds_toArray, List.set_cons_zero, List.set_cons_succ])
                          refine tkU 24 rfl ?_
                          refine tkU 25 rfl ?_
                          refine tkU 26 rfl ?_
                          refine tkU 27 rfl ?_
                          (try simp only [Act.put, List.getElem_toArray, List.getElem_cons_succ, List.getElem_cons_zero, List.setIfInBounds_toArray, List.set_cons_zero, List.set_cons_succ])
                          refine tkU 28 rfl ?_
                          refine tkU 29 rfl ?_
                          refine tkU 30 rfl ?_
                          (try simp only [Act.put, List.getElem_toArray, List.getElem_cons_succ, List.getElem_cons_zero, List.setIfInBounds_toArray, List.set_cons_zero, List.set_cons_succ])
                          refine tkT 31 (.bool false) rfl ?_
                          (try simp only [Act.put, List.getElem_toArray, List.getElem_cons_succ, List.getElem_cons_zero, List.setIfInBounds_toArray, List.set_cons_zero, List.set_cons_succ])
                          refine wpAnyH_done (by kernel_rfl) ?_ _
                          go_wp2
                          exact ⟨⟨b + 1, by go_num, by omega, by with_reducible (repeat' first | assumption | exact Below.refl _ _ | refine Below.drew ?_ | refine bdrewN ?_ _ | refine Below.setCell ?_ (by first | exact Nat.le_refl _ | (simp; done) | (simp; omega) | omega) _ | refine Below.alloc ?_ (by first | exact Nat.le_refl _ | (simp; done) | (simp; omega) | omega) _)⟩, by simp [intOf]; omega⟩
                      · have hbm' : ¬ ((b : Int) < m6) := by omega
                        go_wp2
                        exact ⟨⟨a + 1, by go_num, by omega, by with_reducible (repeat' first | assumption | exact Below.refl _ _ | refine Below.drew ?_ | refine bdrewN ?_ _ | refine Below.setCell ?_ (by first | exact Nat.le_refl _ | (simp; done) | (simp; omega) | omega) _ | refine Below.alloc ?_ (by first | exact Nat.le_refl _ | (simp; done) | (simp; omega) | omega) _)⟩, by simp [intOf]; omega⟩
                  · have ham' : ¬ ((a : Int) < m6) := by omega
                    go_wp2
                    exact ⟨⟨i + 1, (.slice q6 m6 cap6), l6, T6, V6, la6, tu6, S6, L6, rfl, by go_num, by omega, by first | omega | (simp; omega), (show Cz _ _ _ _ _ _ _ _ _ from HC5.out.keep (by with_reducible (repeat' first | assumption | exact Below.refl _ _ | refine Below.drew ?_ | refine bdrewN ?_ _ | refine Below.setCell ?_ (by first | exact Nat.le_refl _ | (simp; done) | (simp; omega) | omega) _ | refine Below.alloc ?_ (by first | exact Nat.le_refl _ | (simp; done) | (simp; omega) | omega) _))), (show RowG _ _ _ _ _ _ _ from HR5.out.keep (by with_reducible (repeat' first | assumption | exact Below.refl _ _ | refine Below.drew ?_ | refine bdrewN ?_ _ | refine Below.setCell ?_ (by first | exact Nat.le_refl _ | (simp; done) | (simp; omega) | omega) _ | refine Below.alloc ?_ (by first | exact Nat.le_refl _ | (simp; done) | (simp; omega) | omega) _))), (show Wn _ _ _ _ _ from HW5.out), hB5.trans ((show Below W5.heap.size W5 _ from by with_reducible (repeat' first | assumption | exact Below.refl _ _ | refine Below.drew ?_ | refine bdrewN ?_ _ | refine Below.setCell ?_ (by first | exact Nat.le_refl _ | (simp; done) | (simp; omega) | omega) _ | refine Below.alloc ?_ (by first | exact Nat.le_refl _ | (simp; done) | (simp; omega) | omega) _)).mono z5)⟩, by simp [intOf]; omega⟩
            · as_aux_lemma =>
                have HIN : Hid (¬ ∀ e ∈ l5, ¬ (e.r = op.r ∧ e.c = op.c)) := hio
                clear hio
                have h0m : 0 < m := by have := some_in HIN.out; have := HM.out; omega
                obtain ⟨g, rfl, hg, _⟩ := hq5 h0m
                clear hq5
                go_wp2_with (first
                              | (go_at_call 7; refine (lat_in _ _ _ _ _ _ (HR.out.keep (by with_reducible (repeat' first | assumption | exact Below.refl _ _ | refine Below.drew ?_ | refine bdrewN ?_ _ | refine Below.setCell ?_ (by first | exact Nat.le_refl _ | (simp; done) | (simp; omega) | omega) _ | refine Below.alloc ?_ (by first | exact Nat.le_refl _ | (simp; done) | (simp; omega) | omega) _))) HLl.out HIN.out).mono ?_; rintro e w1 ⟨p, f, rfl, hf, hfr, hfc, hb⟩; have HF : Hid (l5[p]? = some f) := hf; have HFR : Hid (f.r = op.r) := hfr; have HFC : Hid (f.c = op.c) := hfc; have hB1 : Below w.heap.size w w1 := bup (by with_reducible (repeat' first | assumption | exact Below.refl _ _ | refine Below.drew ?_ | refine bdrewN ?_ _ | refine Below.setCell ?_ (by first | exact Nat.le_refl _ | (simp; done) | (simp; omega) | omega) _ | refine Below.alloc ?_ (by first | exact Nat.le_refl _ | (simp; done) | (simp; omega) | omega) _)) hb; have hR1 : Below wr.heap.size wr w1 := bup (by with_reducible (repeat' first | assumption | exact Below.refl _ _ | refine Below.drew ?_ | refine bdrewN ?_ _ | refine Below.setCell ?_ (by first | exact Nat.le_refl _ | (simp; done) | (simp; omega) | omega) _ | refine Below.alloc ?_ (by first | exact Nat.le_refl _ | (simp; done) | (simp; omega) | omega) _)) hb; have oX1 : Own w1 wr.heap.size #[.int .i64 1, .int .i64 op.r, .int .i64 op.c, .int .i64 op.r2, .int .i64 op.c2] := Own.keep (by with_reducible (repeat' first | assumption | refine Own.drew ?_ | refine Own.drewN ?_ _ | (refine Own.at ?_; first | rfl | (simp; done)) | refine Own.past ?_ _)) hb; have x10 : w1.cell? ⟨wr.heap.size, 0, none⟩ = some (.int .i64 1) := oX1.cell 0; have x11 : w1.cell? ⟨wr.heap.size, 1, none⟩ = some (.int .i64 op.r) := oX1.cell 1; have x12 : w1.cell? ⟨wr.heap.size, 2, none⟩ = some (.int .i64 op.c) := oX1.cell 2; have lX1 := oX1.lt; have hpm : p < m := (by have := HM.out; have := (List.getElem?_eq_some_iff.1 hf).1; omega); have hpb : ((p : Int) == (m : Int)) = false := (by simp; omega); have hpd : decide ((p : Int) < (m : Int)) = true := decide_eq_true (by omega); clear hb hf hfr hfc)
                              | (go_at_call 8; refine (HMy.out _).mono ?_; rintro e w2 ⟨rfl, hb⟩; have hB2 : Below w.heap.size w w2 := bup (by with_reducible (repeat' first | assumption | exact Below.refl _ _ | refine Below.drew ?_ | refine bdrewN ?_ _ | refine Below.setCell ?_ (by first | exact Nat.le_refl _ | (simp; done) | (simp; omega) | omega) _ | refine Below.alloc ?_ (by first | exact Nat.le_refl _ | (simp; done) | (simp; omega) | omega) _)) hb; have hR2 : Below wr.heap.size wr w2 := bup (by with_reducible (repeat' first | assumption | exact Below.refl _ _ | refine Below.drew ?_ | refine bdrewN ?_ _ | refine Below.setCell ?_ (by first | exact Nat.le_refl _ | (simp; done) | (simp; omega) | omega) _ | refine Below.alloc ?_ (by first | exact Nat.le_refl _ | (simp; done) | (simp; omega) | omega) _)) hb; have oX2 : Own w2 wr.heap.size #[.int .i64 1, .int .i64 op.r, .int .i64 op.c, .int .i64 op.r2, .int .i64 op.c2] := Own.keep (by with_reducible (repeat' first | assumption | refine Own.drew ?_ | refine Own.drewN ?_ _ | (refine Own.at ?_; first | rfl | (simp; done)) | refine Own.past ?_ _)) hb; have x20 : w2.cell? ⟨wr.heap.size, 0, none⟩ = some (.int .i64 1) := oX2.cell 0; have x21 : w2.cell? ⟨wr.heap.size, 1, none⟩ = some (.int .i64 op.r) := oX2.cell 1; have x22 : w2.cell? ⟨wr.heap.size, 2, none⟩ = some (.int .i64 op.c) := oX2.cell 2; have lX2 := oX2.lt; have HX2 : Hid (Nx w.heap.size w2 N most last turns S i L (.slice (some ⟨g, 0, none⟩) m cap5) l5 wr.heap.size #[.int .i64 1, .int .i64 op.r, .int .i64 op.c, .int .i64 op.r2, .int .i64 op.c2]) := (show Nx _ _ _ _ _ _ _ _ _ _ _ _ _ from Nx.begin HC.out HR.out hR2 oX2 (Nat.le_refl _) (by omega)); clear hb)
                              | (go_at_call 9; refine (nx_see (HX2.out.keep (by with_reducible (repeat' first | assumption | exact Below.refl _ _ | refine Below.drew ?_ | refine bdrewN ?_ _ | refine Below.setCell ?_ (by first | exact Nat.le_refl _ | (simp; done) | (simp; omega) | omega) _ | refine Below.alloc ?_ (by first | exact Nat.le_refl _ | (simp; done) | (simp; omega) | omega) _))) (by omega) op.r op.c ok1 ok2 (by omega)).mono ?_; rintro e w3 ⟨rfl, q1, q2⟩; obtain ⟨S3, hS3⟩ : ∃ S3, S3 = seeS S last op.r op.c := ⟨_, rfl⟩; rw [← hS3] at q1; have HS3 : Hid (S3 = seeS S last op.r op.c) := hS3; clear hS3; have HX3 : Hid (Nx w.heap.size w3 N most last turns S3 (i + 1) (⟨op.r, op.c⟩ :: L) (.slice (some ⟨g, 0, none⟩) m cap5) l5 wr.heap.size #[.int .i64 1, .int .i64 op.r, .int .i64 op.c, .int .i64 op.r2, .int .i64 op.c2]) := q1; have hB3 : Below w.heap.size w w3 := (show Below w.heap.size w _ from by with_reducible (repeat' first | assumption | exact Below.refl _ _ | refine Below.drew ?_ | refine bdrewN ?_ _ | refine Below.setCell ?_ (by first | exact Nat.le_refl _ | (simp; done) | (simp; omega) | omega) _ | refine Below.alloc ?_ (by first | exact Nat.le_refl _ | (simp; done) | (simp; omega) | omega) _)).trans q2; have z3 := hB3.size; have oX3 := HX3.out.own; have x30 : w3.cell? ⟨wr.heap.size, 0, none⟩ = some (.int .i64 1) := oX3.cell 0; have x31 : w3.cell? ⟨wr.heap.size, 1, none⟩ = some (.int .i64 op.r) := oX3.cell 1; have x32 : w3.cell? ⟨wr.heap.size, 2, none⟩ = some (.int .i64 op.c) := oX3.cell 2; have lX3 := oX3.lt; clear q1 q2; have gj : w3.cell? ⟨g, p * 4 + 3, none⟩ = some (.int .i64 f.v) := row_at HX3.out.row HF.out 3 _ rfl; have gf : w3.frozen? ⟨g, p * 4 + 3, none⟩ = false := row_fro HX3.out.row _; have lg : g < w3.heap.size := (HX3.out.row.lt g rfl).2; have hB4 := hB3))
                obtain ⟨W5, hW5⟩ : ∃ W5 : World, W5 = w3.setCell ⟨g, p * 4 + 3, none⟩ (.int .i64 ((i : Int) + 1)) := ⟨_, rfl⟩
                obtain ⟨q6, m6, cap6, hv6, l6, T6, V6, la6, tu6, S6, L6, hl6, HC5, HR5, HW5⟩ : ∃ (q6 : Option Addr) (m6 cap6 : Nat), Value.slice (some ⟨g, 0, none⟩) m cap5 = .slice q6 m6 cap6 ∧ ∃ (l6 : List We) (T6 V6 : Int → Int → Int) (la6 tu6 : Int) (S6 : St) (L6 : List Cl), l6.length ≤ i + 1 ∧ Hid (Cz (Fv w.heap.size (.slice q6 m6 cap6)) W5 N most la6 tu6 S6 (i + 1) L6) ∧ Hid (RowW W5 w.heap.size (.slice q6 m6 cap6) l6) ∧ Hid (Wn S6 T6 V6 l6 ((i : Int) + 1)) := ⟨(some ⟨g, 0, none⟩), m, cap5, rfl, (l5.set p (⟨f.r, f.c, f.t, (i : Int) + 1⟩ : We)), T, (upI V op.r op.c ((i : Int) + 1)), last, turns, S3, (⟨op.r, op.c⟩ :: L), (by first | omega | (simp; omega)), (show Cz _ _ _ _ _ _ _ _ _ from by rw [hW5]; exact (HX3.out.put (e' := (⟨f.r, f.c, f.t, (i : Int) + 1⟩ : We)) (j := 3) (u := (.int .i64 ((i : Int) + 1))) HF.out (by decide) rfl).czF), (show RowG _ _ _ _ _ _ _ from by rw [hW5]; exact (HX3.out.put (e' := (⟨f.r, f.c, f.t, (i : Int) + 1⟩ : We)) (j := 3) (u := (.int .i64 ((i : Int) + 1))) HF.out (by decide) rfl).row), (show Wn _ _ _ _ _ from by rw [HS3.out]; exact (HW.out).se HX2.out.cz.low HMY.out HF.out HFR.out HFC.out)⟩
                have hB5 : Below w.heap.size w W5 := (by rw [hW5]; exact hB4.trans (HX3.out.putB (.int .i64 ((i : Int) + 1))))
                rw [hv6, ← hW5]
                clear hW5 hv6
                clear HX2 HC HR HW HMy
                obtain ⟨hml, hmc, hmc2, hq5⟩ := row_q HR5.out
                have HQ5 : Hid _ := hq5
                have HL6 : Hid (m6 = l6.length) := hml
                have b5 : Below W5.heap.size W5 W5 := Below.refl _ _
                have z5 := hB5.size
                clear hq5 hml
                go_loopw [13] (fun u w' => ∃ a : Nat, u = .int .i64 a ∧ a ≤ m6 ∧ Below W5.heap.size W5 w') (fun u _ => m6 - (intOf u).toNat)
                case atStart => exact ⟨0, rfl, by omega, b5⟩
                case round =>
                  clear b5
                  obtain ⟨a, rfl, ha, hB6⟩ := hrel
                  have z6 := hB6.size
                  by_cases ham : a < m6
                  · have ham' : (a : Int) < m6 := by omega
                    go_wp2
                    go_loopw [14] (fun u w' => ∃ b : Nat, u = .int .i64 b ∧ b ≤ m6 ∧ Below W5.heap.size W5 w') (fun u _ => m6 - (intOf u).toNat)
                    case atStart => exact ⟨0, rfl, by omega, by with_reducible (repeat' first | assumption | exact Below.refl _ _ | refine Below.drew ?_ | refine bdrewN ?_ _ | refine Below.setCell ?_ (by first | exact Nat.le_refl _ | (simp; done) | (simp; omega) | omega) _ | refine Below.alloc ?_ (by first | exact Nat.le_refl _ | (simp; done) | (simp; omega) | omega) _)⟩
                    case round =>
                      clear hB6 z6
                      obtain ⟨b, rfl, hb, hB7⟩ := hrel
                      have z7 := hB7.size
                      by_cases hbm : b < m6
                      · have hbm' : (b : Int) < m6 := by omega
                        obtain ⟨e, he⟩ : ∃ e, l6[a]? = some e := ⟨_, List.getElem?_eq_getElem (by have := HL6.out; omega)⟩
                        obtain ⟨f, hf⟩ : ∃ f, l6[b]? = some f := ⟨_, List.getElem?_eq_getElem (by have := HL6.out; omega)⟩
                        obtain ⟨g, rfl, hg, hcl⟩ := HQ5.out (by omega)
                        have e0 : wr.cell? ⟨g, a * 4, none⟩ = some (.int .i64 e.r) := (hB7.cell (p := ⟨g, a * 4, none⟩) hg).trans (hcl a e he 0 _ rfl)
                        have e1 : wr.cell? ⟨g, a * 4 + 1, none⟩ = some (.int .i64 e.c) := (hB7.cell (p := ⟨g, a * 4 + 1, none⟩) hg).trans (hcl a e he 1 _ rfl)
                        have e2 : wr.cell? ⟨g, a * 4 + 2, none⟩ = some (.int .i64 e.t) := (hB7.cell (p := ⟨g, a * 4 + 2, none⟩) hg).trans (hcl a e he 2 _ rfl)
                        have f0 : wr.cell? ⟨g, b * 4, none⟩ = some (.int .i64 f.r) := (hB7.cell (p := ⟨g, b * 4, none⟩) hg).trans (hcl b f hf 0 _ rfl)
                        have f1 : wr.cell? ⟨g, b * 4 + 1, none⟩ = some (.int .i64 f.c) := (hB7.cell (p := ⟨g, b * 4 + 1, none⟩) hg).trans (hcl b f hf 1 _ rfl)
                        have f3 : wr.cell? ⟨g, b * 4 + 3, none⟩ = some (.int .i64 f.v) := (hB7.cell (p := ⟨g, b * 4 + 3, none⟩) hg).trans (hcl b f hf 3 _ rfl)
                        have lg : g < wr.heap.size := by omega
                        have HDC : Hid (∀ W, Below W5.heap.size W5 W → Calls Try.prog 12 #[.pointer (some ⟨N, 0, none⟩), .agg #[.int .i64 e.r, .int .i64 e.c], .agg #[.int .i64 f.r, .int .i64 f.c]] W fun e' w' => e' = .returned (.bool (decide (f.v < e.t))) ∧ Below W.heap.size W w') := (show _ from fun W h1 => (cz_newer (HC5.out.keep h1) e.r e.c f.r f.c (HW5.out.i64 e (List.mem_of_getElem? he)).1 (HW5.out.i64 e (List.mem_of_getElem? he)).2 (HW5.out.i64 f (List.mem_of_getElem? hf)).1 (HW5.out.i64 f (List.mem_of_getElem? hf)).2).mono (fun e' w' q => by rw [dec_newer HW5.out he hf] at q; exact q))
                        clear hcl he hf
                        by_cases h12 : (a : Int) < 12
                        · have d12 : decide ((a : Int) < 12) = true := decide_eq_true h12
                          by_cases h13 : (b : Int) < 12
                          · have d13 : decide ((b : Int) < 12) = true := decide_eq_true h13
                            go_wp2
                            refine wp_region_held_drew (S := (fun w' => w'.cell? ⟨g, a * 4, none⟩ = some (.int .i64 e.r) ∧ w'.cell? ⟨g, a * 4 + 1, none⟩ = some (.int .i64 e.c) ∧ w'.cell? ⟨g, a * 4 + 2, none⟩ = some (.int .i64 e.t) ∧ w'.cell? ⟨g, b * 4, none⟩ = some (.int .i64 f.r) ∧ w'.cell? ⟨g, b * 4 + 1, none⟩ = some (.int .i64 f.c) ∧ w'.cell? ⟨g, b * 4 + 3, none⟩ = some (.int .i64 f.v))) (by kernel_rfl) (by (try dsimp only); ((repeat' apply And.intro) <;> (first | (go_keep; done) | (go_simp; done)))) (fun hHeld => ?_)
                            refine tkT 0 (.int .i64 a) rfl ?_
                            (try simp only [Act.put, List.getElem_toArray, List.getElem_cons_succ, List.getElem_cons_zero, List.setIfInBounds_toArray, List.set_cons_zero, List.set_cons_succ])
                            refine tkT 1 (.bool true) rfl ?_
                            (try simp only [Act.put, List.getElem_toArray, List.getElem_cons_succ, List.getElem_cons_zero, List.setIfInBounds_toArray, List.set_cons_zero, List.set_cons_succ])
                            refine tkT 2 (.bool true) rfl ?_
                            (try simp only [Act.put, List.getElem_toArray, List.getElem_cons_succ, List.getElem_cons_zero, List.setIfInBounds_toArray, List.set_cons_zero, List.set_cons_succ])
                            refine tkT 3 (.int .i64 b) rfl ?_
                            (try simp only [Act.put, List.getElem_toArray, List.getElem_cons_succ, List.getElem_cons_zero, List.setIfInBounds_toArray, List.set_cons_zero, List.set_cons_succ])
                            refine tkT 4 (.bool true) rfl ?_
                            (try simp only [Act.put, List.getElem_toArray, List.getElem_cons_succ, List.getElem_cons_zero, List.setIfInBounds_toArray, List.set_cons_zero, List.set_cons_succ])
                            refine tkT 5 (.bool true) rfl ?_
                            (try simp only [Act.put, List.getElem_toArray, List.getElem_cons_succ, List.getElem_cons_zero, List.setIfInBounds_toArray, List.set_cons_zero, List.set_cons_succ])
                            refine tkT 6 (.bool true) rfl ?_
                            (try simp only [Act.put, List.getElem_toArray, List.getElem_cons_succ, List.getElem_cons_zero, List.setIfInBounds_toArray, List.set_cons_zero, List.set_cons_succ])
                            refine tkT 7 (.pointer (some ⟨N, 0, none⟩)) rfl ?_
                            (try simp only [Act.put, List.getElem_toArray, List.getElem_cons_succ, List.getElem_cons_zero, List.setIfInBounds_toArray, List.set_cons_zero, List.set_cons_succ])
                            refine tkT 8 (.slice (some ⟨g, 0, none⟩) m6 cap6) rfl ?_
                            (try simp only [Act.put, List.getElem_toArray, List.getElem_cons_succ, List.getElem_cons_zero, List.setIfInBounds_toArray, List.set_cons_zero, List.set_cons_succ])
                            refine tkT 9 (.int .i64 a) rfl ?_
                            (try simp only [Act.put, List.getElem_toArray, List.getElem_cons_succ, List.getElem_cons_zero, List.setIfInBounds_toArray, List.set_cons_zero, List.set_cons_succ])
                            refine tkT 10 (.pointer (some ⟨g, a * 4, none⟩)) rfl ?_
                            (try simp only [Act.put, List.getElem_toArray, List.getElem_cons_succ, List.getElem_cons_zero, List.setIfInBounds_toArray, List.set_cons_zero, List.set_cons_succ])
                            refine tkT 11 (.pointer (some ⟨g, a * 4, none⟩)) rfl ?_
                            (try simp only [Act.put, List.getElem_toArray, List.getElem_cons_succ, List.getElem_cons_zero, List.setIfInBounds_toArray, List.set_cons_zero, List.set_cons_succ])
                            refine tkT 12 (.agg #[.int .i64 e.r, .int .i64 e.c]) rfl ?_
                            (try simp only [Act.put, List.getElem_toArray, List.getElem_cons_succ, List.getElem_cons_zero, List.setIfInBounds_toArray, List.set_cons_zero, List.set_cons_succ])
                            refine tkT 13 (.slice (some ⟨g, 0, none⟩) m6 cap6) rfl ?_
                            (try simp only [Act.put, List.getElem_toArray, List.getElem_cons_succ, List.getElem_cons_zero, List.setIfInBounds_toArray, List.set_cons_zero, List.set_cons_succ])
                            refine tkT 14 (.int .i64 b) rfl ?_
                            (try simp only [Act.put, List.getElem_toArray, List.getElem_cons_succ, List.getElem_cons_zero, List.setIfInBounds_toArray, List.set_cons_zero, List.set_cons_succ])
                            refine tkT 15 (.pointer (some ⟨g, b * 4, none⟩)) rfl ?_
                            (try simp only [Act.put, List.getElem_toArray, List.getElem_cons_succ, List.getElem_cons_zero, List.setIfInBounds_toArray, List.set_cons_zero, List.set_cons_succ])
                            refine tkT 16 (.pointer (some ⟨g, b * 4, none⟩)) rfl ?_
                            (try simp only [Act.put, List.getElem_toArray, List.getElem_cons_succ, List.getElem_cons_zero, List.setIfInBounds_toArray, List.set_cons_zero, List.set_cons_succ])
                            refine tkT 17 (.agg #[.int .i64 f.r, .int .i64 f.c]) rfl ?_
                            (try simp only [Act.put, List.getElem_toArray, List.getElem_cons_succ, List.getElem_cons_zero, List.setIfInBounds_toArray, List.set_cons_zero, List.set_cons_succ])
                            refine tkT 19 (.slice (some ⟨g, 0, none⟩) m6 cap6) rfl ?_
                            (try simp only [Act.put, List.getElem_toArray, List.getElem_cons_succ, List.getElem_cons_zero, List.setIfInBounds_toArray, List.set_cons_zero, List.set_cons_succ])
                            refine tkT 20 (.int .i64 a) rfl ?_
                            (try simp only [Act.put, List.getElem_toArray, List.getElem_cons_succ, List.getElem_cons_zero, List.setIfInBounds_toArray, List.set_cons_zero, List.set_cons_succ])
                            refine tkT 21 (.pointer (some ⟨g, a * 4, none⟩)) rfl ?_
                            (try simp only [Act.put, List.getElem_toArray, List.getElem_cons_succ, List.getElem_cons_zero, List.setIfInBounds_toArray, List.set_cons_zero, List.set_cons_succ])
                            refine tkT 22 (.pointer (some ⟨g, a * 4 + 2, none⟩)) rfl ?_
                            (try simp only [Act.put, List.getElem_toArray, List.getElem_cons_succ, List.getElem_cons_zero, List.setIfInBounds_toArray, List.set_cons_zero, List.set_cons_succ])
                            refine tkT 23 (.int .i64 e.t) rfl ?_
                            (try simp only [Act.put, List.getElem_toArray, List.getElem_cons_succ, List.getElem_cons_zero, List.setIfInBounds_toArray, List.set_cons_zero, List.set_cons_succ])
                            refine tkT 24 (.slice (some ⟨g, 0, none⟩) m6 cap6) rfl ?_
                            (try simp only [Act.put, List.getElem_toArray, List.getElem_cons_succ, List.getElem_cons_zero, List.setIfInBounds_toArray, List.set_cons_zero, List.set_cons_succ])
                            refine tkT 25 (.int .i64 b) rfl ?_
                            (try simp only [Act.put, List.getElem_toArray, List.getElem_cons_succ, List.getElem_cons_zero, List.setIfInBounds_toArray, List.set_cons_zero, List.set_cons_succ])
                            refine tkT 26 (.pointer (some ⟨g, b * 4, none⟩)) rfl ?_
                            (try simp only [Act.put, List.getElem_toArray, List.getElem_cons_succ, List.getElem_cons_zero, List.setIfInBounds_toArray, List.set_cons_zero, List.set_cons_succ])
                            refine tkT 27 (.pointer (some ⟨g, b * 4 + 3, none⟩)) rfl ?_
                            (try simp only [Act.put, List.getElem_toArray, List.getElem_cons_succ, List.getElem_cons_zero, List.setIfInBounds_toArray, List.set_cons_zero, List.set_cons_succ])
                            refine tkT 28 (.int .i64 f.v) rfl ?_
                            (try simp only [Act.put, List.getElem_toArray, List.getElem_cons_succ, List.getElem_cons_zero, List.setIfInBounds_toArray, List.set_cons_zero, List.set_cons_succ])
                            refine tkT 29 (.bool (decide (f.v < e.t))) rfl ?_
                            (try simp only [Act.put, List.getElem_toArray, List.getElem_cons_succ, List.getElem_cons_zero, List.setIfInBounds_toArray, List.set_cons_zero, List.set_cons_succ])
                            refine wpAnyH_ready (rs := [18]) (by kernel_rfl) (by simp) ?_
                            refine AllReadyH.cons rfl (fun K hK => ?_) ?_
                            · go_simp
                              (go_at_call 12; refine (HDC.out _ (by with_reducible (repeat' first | assumption | exact Below.refl _ _ | refine Below.drew ?_ | refine bdrewN ?_ _ | refine Below.setCell ?_ (by first | exact Nat.le_refl _ | (simp; done) | (simp; omega) | omega) _ | refine Below.alloc ?_ (by first | exact Nat.le_refl _ | (simp; done) | (simp; omega) | omega) _))).mono ?_; rintro e' w8 ⟨rfl, hb8⟩; have hB8 : Below W5.heap.size W5 w8 := bup (by with_reducible (repeat' first | assumption | exact Below.refl _ _ | refine Below.drew ?_ | refine bdrewN ?_ _ | refine Below.setCell ?_ (by first | exact Nat.le_refl _ | (simp; done) | (simp; omega) | omega) _ | refine Below.alloc ?_ (by first | exact Nat.le_refl _ | (simp; done) | (simp; omega) | omega) _)) hb8; have hR8 : Below wr.heap.size wr w8 := bup (by with_reducible (repeat' first | assumption | exact Below.refl _ _ | refine Below.drew ?_ | refine bdrewN ?_ _ | refine Below.setCell ?_ (by first | exact Nat.le_refl _ | (simp; done) | (simp; omega) | omega) _ | refine Below.alloc ?_ (by first | exact Nat.le_refl _ | (simp; done) | (simp; omega) | omega) _)) hb8; have g0 : w8.cell? ⟨g, a * 4, none⟩ = some (.int .i64 e.r) := (hR8.cell (p := ⟨g, a * 4, none⟩) lg).trans e0; have g1 : w8.cell? ⟨g, a * 4 + 1, none⟩ = some (.int .i64 e.c) := (hR8.cell (p := ⟨g, a * 4 + 1, none⟩) lg).trans e1; have g2 : w8.cell? ⟨g, a * 4 + 2, none⟩ = some (.int .i64 e.t) := (hR8.cell (p := ⟨g, a * 4 + 2, none⟩) lg).trans e2; have k0 : w8.cell? ⟨g, b * 4, none⟩ = some (.int .i64 f.r) := (hR8.cell (p := ⟨g, b * 4, none⟩) lg).trans f0; have k1 : w8.cell? ⟨g, b * 4 + 1, none⟩ = some (.int .i64 f.c) := (hR8.cell (p := ⟨g, b * 4 + 1, none⟩) lg).trans f1; have k3 : w8.cell? ⟨g, b * 4 + 3, none⟩ = some (.int .i64 f.v) := (hR8.cell (p := ⟨g, b * 4 + 3, none⟩) lg).trans f3; have lg8 : g < w8.heap.size := (by have := hR8.size; omega); clear hb8)
                              go_wp2_with fail
                              refine hK.out _ _ (by (try dsimp only); first | (with_reducible assumption) | ((repeat' apply And.intro) <;> (first | (go_keep; done) | (go_simp; done)))) (fun hHeld => ?_)
                              clear hK K
                              (try simp only [Act.put, List.getElem_toArray, List.getElem_cons_succ, List.getElem_cons_zero, List.setIfInBounds_toArray, List.set_cons_zero, List.set_cons_succ])
                              refine tkT 30 (.bool false) rfl ?_
                              (try simp only [Act.put, List.getElem_toArray, List.getElem_cons_succ, List.getElem_cons_zero, List.setIfInBounds_toArray, List.set_cons_zero, List.set_cons_succ])
                              refine tkT 31 (.bool false) rfl ?_
                              (try simp only [Act.put, List.getElem_toArray, List.getElem_cons_succ, List.getElem_cons_zero, List.setIfInBounds_toArray, List.set_cons_zero, List.set_cons_succ])
                              refine wpAnyH_done (by kernel_rfl) ?_ _
                              go_wp2
                              exact ⟨⟨b + 1, by go_num, by omega, by with_reducible (repeat' first | assumption | exact Below.refl _ _ | refine Below.drew ?_ | refine bdrewN ?_ _ | refine Below.setCell ?_ (by first | exact Nat.le_refl _ | (simp; done) | (simp; omega) | omega) _ | refine Below.alloc ?_ (by first | exact Nat.le_refl _ | (simp; done) | (simp; omega) | omega) _)⟩, by simp [intOf]; omega⟩
                            exact AllReadyH.nil
                          · have d13 : decide ((b : Int) < 12) = false := decide_eq_false h13
                            go_wp2
                            refine wp_region_held_drew (S := (fun w' => w'.cell? ⟨g, a * 4, none⟩ = some (.int .i64 e.r) ∧ w'.cell? ⟨g, a * 4 + 1, none⟩ = some (.int .i64 e.c) ∧ w'.cell? ⟨g, a * 4 + 2, none⟩ = some (.int .i64 e.t) ∧ w'.cell? ⟨g, b * 4, none⟩ = some (.int .i64 f.r) ∧ w'.cell? ⟨g, b * 4 + 1, none⟩ = some (.int .i64 f.c) ∧ w'.cell? ⟨g, b * 4 + 3, none⟩ = some (.int .i64 f.v))) (by kernel_rfl) (by (try dsimp only); ((repeat' apply And.intro) <;> (first | (go_keep; done) | (go_simp; done)))) (fun hHeld => ?_)
                            refine tkT 0 (.int .i64 a) rfl ?_
                            (try simp only [Act.put, List.getElem_toArray, List.getElem_cons_succ, List.getElem_cons_zero, List.setIfInBounds_toArray, List.set_cons_zero, List.set_cons_succ])
                            refine tkT 1 (.bool true) rfl ?_
                            (try simp only [Act.put, List.getElem_toArray, List.getElem_cons_succ, List.getElem_cons_zero, List.setIfInBounds_toArray, List.set_cons_zero, List.set_cons_succ])
                            refine tkT 2 (.bool true) rfl ?_
                            (try simp only [Act.put, List.getElem_toArray, List.getElem_cons_succ, List.getElem_cons_zero, List.setIfInBounds_toArray, List.set_cons_zero, List.set_cons_succ])
                            refine tkT 3 (.int .i64 b) rfl ?_
                            (try simp only [Act.put, List.getElem_toArray, List.getElem_cons_succ, List.getElem_cons_zero, List.setIfInBounds_toArray, List.set_cons_zero, List.set_cons_succ])
                            refine tkT 4 (.bool false) rfl ?_
                            (try simp only [Act.put, List.getElem_toArray, List.getElem_cons_succ, List.getElem_cons_zero, List.setIfInBounds_toArray, List.set_cons_zero, List.set_cons_succ])
                            refine tkT 5 (.bool false) rfl ?_
                            (try simp only [Act.put, List.getElem_toArray, List.getElem_cons_succ, List.getElem_cons_zero, List.setIfInBounds_toArray, List.set_cons_zero, List.set_cons_succ])
                            refine tkT 6 (.bool false) rfl ?_
                            (try simp only [Act.put, List.getElem_toArray, List.getElem_cons_succ, List.getElem_cons_zero, List.setIfInBounds_toArray, List.set_cons_zero, List.set_cons_succ])
                            refine tkU 7 rfl ?_
                            (try simp only [Act.put, List.getElem_toArray, List.getElem_cons_succ, List.getElem_cons_zero, List.setIfInBounds_toArray, List.set_cons_zero, List.set_cons_succ])
                            refine tkU 8 rfl ?_
                            refine tkU 9 rfl ?_
                            refine tkU 10 rfl ?_
                            refine tkU 11 rfl ?_
                            (try simp only [Act.put, List.getElem_toArray, List.getElem_cons_succ, List.getElem_cons_zero, List.setIfInBounds_toArray, List.set_cons_zero, List.set_cons_succ])
                            refine tkU 12 rfl ?_
                            refine tkU 13 rfl ?_
                            refine tkU 14 rfl ?_
                            refine tkU 15 rfl ?_
                            (try simp only [Act.put, List.getElem_toArray, List.getElem_cons_succ, List.getElem_cons_zero, List.setIfInBounds_toArray, List.set_cons_zero, List.set_cons_succ])
                            refine tkU 16 rfl ?_
                            refine tkU 17 rfl ?_
                            refine tkU 18 rfl ?_
                            refine tkU 19 rfl ?_
                            (try simp only [Act.put, List.getElem_toArray, List.getElem_cons_succ, List.getElem_cons_zero, List.setIfInBounds_toArray, List.set_cons_zero, List.set_cons_succ])
                            refine tkU 20 rfl ?_
                            refine tkU 21 rfl ?_
                            refine tkU 22 rfl ?_
                            refine tkU 23 rfl ?_
                            (try simp only [Act.put, List.getElem_toArray, List.getElem_cons_succ, List.getElem_cons_zero, List.setIfInBounds_toArray, List.set_cons_zero, List.set_cons_succ])
                            refine tkU 24 rfl ?_
                            refine tkU 25 rfl ?_
                            refine tkU 26 rfl ?_
                            refine tkU 27 rfl ?_
                            (try simp only [Act.put, List.getElem_toArray, List.getElem_cons_succ, List.getElem_cons_zero, List.setIfInBounds_toArray, List.set_cons_zero, List.set_cons_succ])
                            refine tkU 28 rfl ?_
                            refine tkU 29 rfl ?_
                            refine tkU 30 rfl ?_
                            (try simp only [Act.put, List.getElem_toArray, List.getElem_cons_succ, List.getElem_cons_zero, List.setIfInBounds_toArray, List.set_cons_zero, List.set_cons_succ])
                            refine tkT 31 (.bool false) rfl ?_
                            (try simp only [Act.put, List.getElem_toArray, List.getElem_cons_succ, List.getElem_cons_zero, List.setIfInBounds_toArray, List.set_cons_zero, List.set_cons_succ])
                            refine wpAnyH_done (by kernel_rfl) ?_ _
                            go_wp2
                            exact ⟨⟨b + 1, by go_num, by omega, by with_reducible (repeat' first | assumption | exact Below.refl _ _ | refine Below.drew ?_ | refine bdrewN ?_ _ | refine Below.setCell ?_ (by first | exact Nat.le_refl _ | (simp; done) | (simp; omega) | omega) _ | refine Below.alloc ?_ (by first | exact Nat.le_refl _ | (simp; done) | (simp; omega) | omega) _)⟩, by simp [intOf]; omega⟩
                        · have d12 : decide ((a : Int) < 12) = false := decide_eq_false h12
                          go_wp2
                          refine wp_region_held_drew (S := (fun w' => w'.cell? ⟨g, a * 4, none⟩ = some (.int .i64 e.r) ∧ w'.cell? ⟨g, a * 4 + 1, none⟩ = some (.int .i64 e.c) ∧ w'.cell? ⟨g, a * 4 + 2, none⟩ = some (.int .i64 e.t) ∧ w'.cell? ⟨g, b * 4, none⟩ = some (.int .i64 f.r) ∧ w'.cell? ⟨g, b * 4 + 1, none⟩ = some (.int .i64 f.c) ∧ w'.cell? ⟨g, b * 4 + 3, none⟩ = some (.int .i64 f.v))) (by kernel_rfl) (by (try dsimp only); ((repeat' apply And.intro) <;> (first | (go_keep; done) | (go_simp; done)))) (fun hHeld => ?_)
                          refine tkT 0 (.int .i64 a) rfl ?_
                          (try simp only [Act.put, List.getElem_toArray, List.getElem_cons_succ, List.getElem_cons_zero, List.setIfInBounds_toArray, List.set_cons_zero, List.set_cons_succ])
                          refine tkT 1 (.bool false) rfl ?_
                          (try simp only [Act.put, List.getElem_toArray, List.getElem_cons_succ, List.getElem_cons_zero, List.setIfInBounds_toArray, List.set_cons_zero, List.set_cons_succ])
                          refine tkT 2 (.bool false) rfl ?_
                          (try simp only [Act.put, List.getElem_toArray, List.getElem_cons_succ, List.getElem_cons_zero, List.setIfInBounds_toArray, List.set_cons_zero, List.set_cons_succ])
                          refine tkU 3 rfl ?_
                          (try simp only [Act.put, List.getElem_toArray, List.getElem_cons_succ, List.getElem_cons_zero, List.setIfInBounds_toArray, List.set_cons_zero, List.set_cons_succ])
                          refine tkU 4 rfl ?_
                          (try simp only [Act.put, List.getElem_toArray, List.getElem_cons_succ, List.getElem_cons_zero, List.setIfInBounds_toArray, List.set_cons_zero, List.set_cons_succ])
                          refine tkT 5 (.bool false) rfl ?_
                          (try simp only [Act.put, List.getElem_toArray, List.getElem_cons_succ, List.getElem_cons_zero, List.setIfInBounds_toArray, List.set_cons_zero, List.set_cons_succ])
                          refine tkT 6 (.bool false) rfl ?_
                          (try simp only [Act.put, List.getElem_toArray, List.getElem_cons_succ, List.getElem_cons_zero, List.setIfInBounds_toArray, List.set_cons_zero, List.set_cons_succ])
                          refine tkU 7 rfl ?_
                          (try simp only [Act.put, List.getElem_toArray, List.getElem_cons_succ, List.getElem_cons_zero, List.setIfInBounds_toArray, List.set_cons_zero, List.set_cons_succ])
                          refine tkU 8 rfl ?_
                          refine tkU 9 rfl ?_
                          refine tkU 10 rfl ?_
                          refine tkU 11 rfl ?_
                          (try simp only [Act.put, List.getElem_toArray, List.getElem_cons_succ, List.getElem_cons_zero, List.setIfInBounds_toArray, List.set_cons_zero, List.set_cons_succ])
                          refine tkU 12 rfl ?_
                          refine tkU 13 rfl ?_
                          refine tkU 14 rfl ?_
                          refine tkU 15 rfl ?_
                          (try simp only [Act.put, List.getElem_toArray, List.getElem_cons_succ, List.getElem_cons_zero, List.setIfInBounds_toArray, List.set_cons_zero, List.set_cons_succ])
                          refine tkU 16 rfl ?_
                          refine tkU 17 rfl ?_
                          refine tkU 18 rfl ?_
                          refine tkU 19 rfl ?_
                          (try simp only [Act.put, List.getElem_toArray, List.getElem_cons_succ, List.getElem_cons_zero, List.setIfInBounds_toArray, List.set_cons_zero, List.set_cons_succ])
                          refine tkU 20 rfl ?_
                          refine tkU 21 rfl ?_
                          refine tkU 22 rfl ?_
                          refine tkU 23 rfl ?_
                          (try simp only [Act.put, List.getElem_toArray, List.getElem_cons_succ, List.getElem_cons_zero, List.setIfInBounds_toArray, List.set_cons_zero, List.set_cons_succ])
                          refine tkU 24 rfl ?_
                          refine tkU 25 rfl ?_
                          refine tkU 26 rfl ?_
                          refine tkU 27 rfl ?_
                          (try simp only [Act.put, List.getElem_toArray, List.getElem_cons_succ, List.getElem_cons_zero, List.setIfInBounds_toArray, List.set_cons_zero, List.set_cons_succ])
                          refine tkU 28 rfl ?_
                          refine tkU 29 rfl ?_
                          refine tkU 30 rfl ?_
                          (try simp only [Act.put, List.getElem_toArray, List.getElem_cons_succ, List.getElem_cons_zero, List.setIfInBounds_toArray, List.set_cons_zero, List.set_cons_succ])
                          refine tkT 31 (.bool false) rfl ?_
                          (try simp only [Act.put, List.getElem_toArray, List.getElem_cons_succ, List.getElem_cons_zero, List.setIfInBounds_toArray, List.set_cons_zero, List.set_cons_succ])
                          refine wpAnyH_done (by kernel_rfl) ?_ _
                          go_wp2
                          exact ⟨⟨b + 1, by go_num, by omega, by with_reducible (repeat' first | assumption | exact Below.refl _ _ | refine Below.drew ?_ | refine bdrewN ?_ _ | refine Below.setCell ?_ (by first | exact Nat.le_refl _ | (simp; done) | (simp; omega) | omega) _ | refine Below.alloc ?_ (by first | exact Nat.le_refl _ | (simp; done) | (simp; omega) | omega) _)⟩, by simp [intOf]; omega⟩
                      · have hbm' : ¬ ((b : Int) < m6) := by omega
                        go_wp2
                        exact ⟨⟨a + 1, by go_num, by omega, by with_reducible (repeat' first | assumption | exact Below.refl _ _ | refine Below.drew ?_ | refine bdrewN ?_ _ | refine Below.setCell ?_ (by first | exact Nat.le_refl _ | (simp; done) | (simp; omega) | omega) _ | refine Below.alloc ?_ (by first | exact Nat.le_refl _ | (simp; done) | (simp; omega) | omega) _)⟩, by simp [intOf]; omega⟩
                  · have ham' : ¬ ((a : Int) < m6) := by omega
                    go_wp2
                    exact ⟨⟨i + 1, (.slice q6 m6 cap6), l6, T6, V6, la6, tu6, S6, L6, rfl, by go_num, by omega, by first | omega | (simp; omega), (show Cz _ _ _ _ _ _ _ _ _ from HC5.out.keep (by with_reducible (repeat' first | assumption | exact Below.refl _ _ | refine Below.drew ?_ | refine bdrewN ?_ _ | refine Below.setCell ?_ (by first | exact Nat.le_refl _ | (simp; done) | (simp; omega) | omega) _ | refine Below.alloc ?_ (by first | exact Nat.le_refl _ | (simp; done) | (simp; omega) | omega) _))), (show RowG _ _ _ _ _ _ _ from HR5.out.keep (by with_reducible (repeat' first | assumption | exact Below.refl _ _ | refine Below.drew ?_ | refine bdrewN ?_ _ | refine Below.setCell ?_ (by first | exact Nat.le_refl _ | (simp; done) | (simp; omega) | omega) _ | refine Below.alloc ?_ (by first | exact Nat.le_refl _ | (simp; done) | (simp; omega) | omega) _))), (show Wn _ _ _ _ _ from HW5.out), hB5.trans ((show Below W5.heap.size W5 _ from by with_reducible (repeat' first | assumption | exact Below.refl _ _ | refine Below.drew ?_ | refine bdrewN ?_ _ | refine Below.setCell ?_ (by first | exact Nat.le_refl _ | (simp; done) | (simp; omega) | omega) _ | refine Below.alloc ?_ (by first | exact Nat.le_refl _ | (simp; done) | (simp; omega) | omega) _)).mono z5)⟩, by simp [intOf]; omega⟩
        · have HMy : Hid (∀ W, Calls Try.prog 8 #[.agg #[.int .i64 op.r, .int .i64 op.c]] W fun e w' => e = .returned (.bool (mayC op.r op.c)) ∧ Below W.heap.size W w') := (show _ from fun W => rmay_any op.r op.c W)
          by_cases hk2 : op.k = 2
          · by_cases hio : ∀ e ∈ l5, ¬ (e.r = op.r ∧ e.c = op.c)
            · as_aux_lemma =>
                have HOUT : Hid (∀ e ∈ l5, ¬ (e.r = op.r ∧ e.c = op.c)) := hio
                clear hio hq5
                go_wp2_with (first
                              | (go_at_call 7; refine (lat_out _ _ _ _ _ _ (HR.out.keep (by with_reducible (repeat' first | assumption | exact Below.refl _ _ | refine Below.drew ?_ | refine bdrewN ?_ _ | refine Below.setCell ?_ (by first | exact Nat.le_refl _ | (simp; done) | (simp; omega) | omega) _ | refine Below.alloc ?_ (by first | exact Nat.le_refl _ | (simp; done) | (simp; omega) | omega) _))) HLl.out HOUT.out).mono ?_; rintro e w1 ⟨rfl, hb⟩; rw [← HM.out]; have hB1 : Below w.heap.size w w1 := bup (by with_reducible (repeat' first | assumption | exact Below.refl _ _ | refine Below.drew ?_ | refine bdrewN ?_ _ | refine Below.setCell ?_ (by first | exact Nat.le_refl _ | (simp; done) | (simp; omega) | omega) _ | refine Below.alloc ?_ (by first | exact Nat.le_refl _ | (simp; done) | (simp; omega) | omega) _)) hb; have hR1 : Below wr.heap.size wr w1 := bup (by with_reducible (repeat' first | assumption | exact Below.refl _ _ | refine Below.drew ?_ | refine bdrewN ?_ _ | refine Below.setCell ?_ (by first | exact Nat.le_refl _ | (simp; done) | (simp; omega) | omega) _ | refine Below.alloc ?_ (by first | exact Nat.le_refl _ | (simp; done) | (simp; omega) | omega) _)) hb; have oX1 : Own w1 wr.heap.size #[.int .i64 2, .int .i64 op.r, .int .i64 op.c, .int .i64 op.r2, .int .i64 op.c2] := Own.keep (by with_reducible (repeat' first | assumption | refine Own.drew ?_ | refine Own.drewN ?_ _ | (refine Own.at ?_; first | rfl | (simp; done)) | refine Own.past ?_ _)) hb; have x10 : w1.cell? ⟨wr.heap.size, 0, none⟩ = some (.int .i64 2) := oX1.cell 0; have x11 : w1.cell? ⟨wr.heap.size, 1, none⟩ = some (.int .i64 op.r) := oX1.cell 1; have x12 : w1.cell? ⟨wr.heap.size, 2, none⟩ = some (.int .i64 op.c) := oX1.cell 2; have lX1 := oX1.lt; clear hb)
                              | (go_at_call 8; refine (HMy.out _).mono ?_; rintro e w2 ⟨rfl, hb⟩; have hB2 : Below w.heap.size w w2 := bup (by with_reducible (repeat' first | assumption | exact Below.refl _ _ | refine Below.drew ?_ | refine bdrewN ?_ _ | refine Below.setCell ?_ (by first | exact Nat.le_refl _ | (simp; done) | (simp; omega) | omega) _ | refine Below.alloc ?_ (by first | exact Nat.le_refl _ | (simp; done) | (simp; omega) | omega) _)) hb; have hR2 : Below wr.heap.size wr w2 := bup (by with_reducible (repeat' first | assumption | exact Below.refl _ _ | refine Below.drew ?_ | refine bdrewN ?_ _ | refine Below.setCell ?_ (by first | exact Nat.le_refl _ | (simp; done) | (simp; omega) | omega) _ | refine Below.alloc ?_ (by first | exact Nat.le_refl _ | (simp; done) | (simp; omega) | omega) _)) hb; have oX2 : Own w2 wr.heap.size #[.int .i64 2, .int .i64 op.r, .int .i64 op.c, .int .i64 op.r2, .int .i64 op.c2] := Own.keep (by with_reducible (repeat' first | assumption | refine Own.drew ?_ | refine Own.drewN ?_ _ | (refine Own.at ?_; first | rfl | (simp; done)) | refine Own.past ?_ _)) hb; have x20 : w2.cell? ⟨wr.heap.size, 0, none⟩ = some (.int .i64 2) := oX2.cell 0; have x21 : w2.cell? ⟨wr.heap.size, 1, none⟩ = some (.int .i64 op.r) := oX2.cell 1; have x22 : w2.cell? ⟨wr.heap.size, 2, none⟩ = some (.int .i64 op.c) := oX2.cell 2; have lX2 := oX2.lt; have HX2 : Hid (Nx w.heap.size w2 N most last turns S i L (.slice q0 m cap5) l5 wr.heap.size #[.int .i64 2, .int .i64 op.r, .int .i64 op.c, .int .i64 op.r2, .int .i64 op.c2]) := (show Nx _ _ _ _ _ _ _ _ _ _ _ _ _ from Nx.begin HC.out HR.out hR2 oX2 (Nat.le_refl _) (by omega)); clear hb)
                              | (go_at_call 11; refine (nx_drop (HX2.out.keep (by with_reducible (repeat' first | assumption | exact Below.refl _ _ | refine Below.drew ?_ | refine bdrewN ?_ _ | refine Below.setCell ?_ (by first | exact Nat.le_refl _ | (simp; done) | (simp; omega) | omega) _ | refine Below.alloc ?_ (by first | exact Nat.le_refl _ | (simp; done) | (simp; omega) | omega) _))) (by omega) op.r op.c ok1 ok2).mono ?_; rintro e w3 ⟨rfl, q1, q2⟩; have HX3 : Hid (Nx w.heap.size w3 N most last turns (upS S op.r op.c none) (i + 1) (⟨op.r, op.c⟩ :: L) (.slice q0 m cap5) l5 wr.heap.size #[.int .i64 2, .int .i64 op.r, .int .i64 op.c, .int .i64 op.r2, .int .i64 op.c2]) := q1; have hB3 : Below w.heap.size w w3 := (show Below w.heap.size w _ from by with_reducible (repeat' first | assumption | exact Below.refl _ _ | refine Below.drew ?_ | refine bdrewN ?_ _ | refine Below.setCell ?_ (by first | exact Nat.le_refl _ | (simp; done) | (simp; omega) | omega) _ | refine Below.alloc ?_ (by first | exact Nat.le_refl _ | (simp; done) | (simp; omega) | omega) _)).trans q2; have z3 := hB3.size; have oX3 := HX3.out.own; have x30 : w3.cell? ⟨wr.heap.size, 0, none⟩ = some (.int .i64 2) := oX3.cell 0; have x31 : w3.cell? ⟨wr.heap.size, 1, none⟩ = some (.int .i64 op.r) := oX3.cell 1; have x32 : w3.cell? ⟨wr.heap.size, 2, none⟩ = some (.int .i64 op.c) := oX3.cell 2; have lX3 := oX3.lt; clear q1 q2))
                obtain ⟨W5, hW5⟩ : ∃ W5 : World, W5 = w3 := ⟨_, rfl⟩
                obtain ⟨q6, m6, cap6, hv6, l6, T6, V6, la6, tu6, S6, L6, hl6, HC5, HR5, HW5⟩ : ∃ (q6 : Option Addr) (m6 cap6 : Nat), Value.slice q0 m cap5 = .slice q6 m6 cap6 ∧ ∃ (l6 : List We) (T6 V6 : Int → Int → Int) (la6 tu6 : Int) (S6 : St) (L6 : List Cl), l6.length ≤ i + 1 ∧ Hid (Cz (Fv w.heap.size (.slice q6 m6 cap6)) W5 N most la6 tu6 S6 (i + 1) L6) ∧ Hid (RowW W5 w.heap.size (.slice q6 m6 cap6) l6) ∧ Hid (Wn S6 T6 V6 l6 ((i : Int) + 1)) := ⟨q0, m, cap5, rfl, l5, T, V, last, turns, (upS S op.r op.c none), (⟨op.r, op.c⟩ :: L), (by first | omega | (simp; omega)), (show Cz _ _ _ _ _ _ _ _ _ from by rw [hW5]; exact (HX3.out).czF), (show RowG _ _ _ _ _ _ _ from by rw [hW5]; exact (HX3.out).row), (show Wn _ _ _ _ _ from HW.out.dropOut HX2.out.cz.low HX2.out.cz.dom HOUT.out)⟩
                have hB5 : Below w.heap.size w W5 := (by rw [hW5]; exact hB3)
                rw [hv6, ← hW5]
                clear hW5 hv6
                clear HX2 HC HR HW HMy
                obtain ⟨hml, hmc, hmc2, hq5⟩ := row_q HR5.out
                have HQ5 : Hid _ := hq5
                have HL6 : Hid (m6 = l6.length) := hml
                have b5 : Below W5.heap.size W5 W5 := Below.refl _ _
                have z5 := hB5.size
                clear hq5 hml
                go_loopw [13] (fun u w' => ∃ a : Nat, u = .int .i64 a ∧ a ≤ m6 ∧ Below W5.heap.size W5 w') (fun u _ => m6 - (intOf u).toNat)
                case atStart => exact ⟨0, rfl, by omega, b5⟩
                case round =>
                  clear b5
                  obtain ⟨a, rfl, ha, hB6⟩ := hrel
                  have z6 := hB6.size
                  by_cases ham : a < m6
                  · have ham' : (a : Int) < m6 := by omega
                    go_wp2
                    go_loopw [14] (fun u w' => ∃ b : Nat, u = .int .i64 b ∧ b ≤ m6 ∧ Below W5.heap.size W5 w') (fun u _ => m6 - (intOf u).toNat)
                    case atStart => exact ⟨0, rfl, by omega, by with_reducible (repeat' first | assumption | exact Below.refl _ _ | refine Below.drew ?_ | refine bdrewN ?_ _ | refine Below.setCell ?_ (by first | exact Nat.le_refl _ | (simp; done) | (simp; omega) | omega) _ | refine Below.alloc ?_ (by first | exact Nat.le_refl _ | (simp; done) | (simp; omega) | omega) _)⟩
                    case round =>
                      clear hB6 z6
                      obtain ⟨b, rfl, hb, hB7⟩ := hrel
                      have z7 := hB7.size
                      by_cases hbm : b < m6
                      · have hbm' : (b : Int) < m6 := by omega
                        obtain ⟨e, he⟩ : ∃ e, l6[a]? = some e := ⟨_, List.getElem?_eq_getElem (by have := HL6.out; omega)⟩
                        obtain ⟨f, hf⟩ : ∃ f, l6[b]? = some f := ⟨_, List.getElem?_eq_getElem (by have := HL6.out; omega)⟩
                        obtain ⟨g, rfl, hg, hcl⟩ := HQ5.out (by omega)
                        have e0 : wr.cell? ⟨g, a * 4, none⟩ = some (.int .i64 e.r) := (hB7.cell (p := ⟨g, a * 4, none⟩) hg).trans (hcl a e he 0 _ rfl)
                        have e1 : wr.cell? ⟨g, a * 4 + 1, none⟩ = some (.int .i64 e.c) := (hB7.cell (p := ⟨g, a * 4 + 1, none⟩) hg).trans (hcl a e he 1 _ rfl)
                        have e2 : wr.cell? ⟨g, a * 4 + 2, none⟩ = some (.int .i64 e.t) := (hB7.cell (p := ⟨g, a * 4 + 2, none⟩) hg).trans (hcl a e he 2 _ rfl)
                        have f0 : wr.cell? ⟨g, b * 4, none⟩ = some (.int .i64 f.r) := (hB7.cell (p := ⟨g, b * 4, none⟩) hg).trans (hcl b f hf 0 _ rfl)
                        have f1 : wr.cell? ⟨g, b * 4 + 1, none⟩ = some (.int .i64 f.c) := (hB7.cell (p := ⟨g, b * 4 + 1, none⟩) hg).trans (hcl b f hf 1 _ rfl)
                        have f3 : wr.cell? ⟨g, b * 4 + 3, none⟩ = some (.int .i64 f.v) := (hB7.cell (p := ⟨g, b * 4 + 3, none⟩) hg).trans (hcl b f hf 3 _ rfl)
                        have lg : g < wr.heap.size := by omega
                        have HDC : Hid (∀ W, Below W5.heap.size W5 W → Calls Try.prog 12 #[.pointer (some ⟨N, 0, none⟩), .agg #[.int .i64 e.r, .int .i64 e.c], .agg #[.int .i64 f.r, .int .i64 f.c]] W fun e' w' => e' = .returned (.bool (decide (f.v < e.t))) ∧ Below W.heap.size W w') := (show _ from fun W h1 => (cz_newer (HC5.out.keep h1) e.r e.c f.r f.c (HW5.out.i64 e (List.mem_of_getElem? he)).1 (HW5.out.i64 e (List.mem_of_getElem? he)).2 (HW5.out.i64 f (List.mem_of_getElem? hf)).1 (HW5.out.i64 f (List.mem_of_getElem? hf)).2).mono (fun e' w' q => by rw [dec_newer HW5.out he hf] at q; exact q))
                        clear hcl he hf
                        by_cases h12 : (a : Int) < 12
                        · have d12 : decide ((a : Int) < 12) = true := decide_eq_true h12
                          by_cases h13 : (b : Int) < 12
                          · have d13 : decide ((b : Int) < 12) = true := decide_eq_true h13
                            go_wp2
                            refine wp_region_held_drew (S := (fun w' => w'.cell? ⟨g, a * 4, none⟩ = some (.int .i64 e.r) ∧ w'.cell? ⟨g, a * 4 + 1, none⟩ = some (.int .i64 e.c) ∧ w'.cell? ⟨g, a * 4 + 2, none⟩ = some (.int .i64 e.t) ∧ w'.cell? ⟨g, b * 4, none⟩ = some (.int .i64 f.r) ∧ w'.cell? ⟨g, b * 4 + 1, none⟩ = some (.int .i64 f.c) ∧ w'.cell? ⟨g, b * 4 + 3, none⟩ = some (.int .i64 f.v))) (by kernel_rfl) (by (try dsimp only); ((repeat' apply And.intro) <;> (first | (go_keep; done) | (go_simp; done)))) (fun hHeld => ?_)
                            refine tkT 0 (.int .i64 a) rfl ?_
                            (try simp only [Act.put, List.getElem_toArray, List.getElem_cons_succ, List.getElem_cons_zero, List.setIfInBounds_toArray, List.set_cons_zero, List.set_cons_succ])
                            refine tkT 1 (.bool true) rfl ?_
                            (try simp only [Act.put, List.getElem_toArray, List.getElem_cons_succ, List.getElem_cons_zero, List.setIfInBounds_toArray, List.set_cons_zero, List.set_cons_succ])
                            refine tkT 2 (.bool true) rfl ?_
                            (try simp only [Act.put, List.getElem_toArray, List.getElem_cons_succ, List.getElem_cons_zero, List.setIfInBounds_toArray, List.set_cons_zero, List.set_cons_succ])
                            refine tkT 3 (.int .i64 b) rfl ?_
                            (try simp only [Act.put, List.getElem_toArray, List.getElem_cons_succ, List.getElem_cons_zero, List.setIfInBounds_toArray, List.set_cons_zero, List.set_cons_succ])
                            refine tkT 4 (.bool true) rfl ?_
                            (try simp only [Act.put, List.getElem_toArray, List.getElem_cons_succ, List.getElem_cons_zero, List.setIfInBounds_toArray, List.set_cons_zero, List.set_cons_succ])
                            refine tkT 5 (.bool true) rfl ?_
                            (try simp only [Act.put, List.getElem_toArray, List.getElem_cons_succ, List.getElem_cons_zero, List.setIfInBounds_toArray, List.set_cons_zero, List.set_cons_succ])
                            refine tkT 6 (.bool true) rfl ?_
                            (try simp only [Act.put, List.getElem_toArray, List.getElem_cons_succ, List.getElem_cons_zero, List.setIfInBounds_toArray, List.set_cons_zero, List.set_cons_succ])
                            refine tkT 7 (.pointer (some ⟨N, 0, none⟩)) rfl ?_
                            (try simp only [Act.put, List.getElem_toArray, List.getElem_cons_succ, List.getElem_cons_zero, List.setIfInBounds_toArray, List.set_cons_zero, List.set_cons_succ])
                            refine tkT 8 (.slice (some ⟨g, 0, none⟩) m6 cap6) rfl ?_
                            (try simp only [Act.put, List.getElem_toArray, List.getElem_cons_succ, List.getElem_cons_zero, List.setIfInBounds_toArray, List.set_cons_zero, List.set_cons_succ])
                            refine tkT 9 (.int .i64 a) rfl ?_
                            (try simp only [Act.put, List.getElem_toArray, List.getElem_cons_succ, List.getElem_cons_zero, List.setIfInBounds_toArray, List.set_cons_zero, List.set_cons_succ])
                            refine tkT 10 (.pointer (some ⟨g, a * 4, none⟩)) rfl ?_
                            (try simp only [Act.put, List.getElem_toArray, List.getElem_cons_succ, List.getElem_cons_zero, List.setIfInBounds_toArray, List.set_cons_zero, List.set_cons_succ])
                            refine tkT 11 (.pointer (some ⟨g, a * 4, none⟩)) rfl ?_
                            (try simp only [Act.put, List.getElem_toArray, List.getElem_cons_succ, List.getElem_cons_zero, List.setIfInBounds_toArray, List.set_cons_zero, List.set_cons_succ])
                            refine tkT 12 (.agg #[.int .i64 e.r, .int .i64 e.c]) rfl ?_
                            (try simp only [Act.put, List.getElem_toArray, List.getElem_cons_succ, List.getElem_cons_zero, List.setIfInBounds_toArray, List.set_cons_zero, List.set_cons_succ])
                            refine tkT 13 (.slice (some ⟨g, 0, none⟩) m6 cap6) rfl ?_
                            (try simp only [Act.put, List.getElem_toArray, List.getElem_cons_succ, List.getElem_cons_zero, List.setIfInBounds_toArray, List.set_cons_zero, List.set_cons_succ])
                            refine tkT 14 (.int .i64 b) rfl ?_
                            (try simp only [Act.put, List.getElem_toArray, List.getElem_cons_succ, List.getElem_cons_zero, List.setIfInBounds_toArray, List.set_cons_zero, List.set_cons_succ])
                            refine tkT 15 (.pointer (some ⟨g, b * 4, none⟩)) rfl ?_
                            (try simp only [Act.put, List.getElem_toArray, List.getElem_cons_succ, List.getElem_cons_zero, List.setIfInBounds_toArray, List.set_cons_zero, List.set_cons_succ])
                            refine tkT 16 (.pointer (some ⟨g, b * 4, none⟩)) rfl ?_
                            (try simp only [Act.put, List.getElem_toArray, List.getElem_cons_succ, List.getElem_cons_zero, List.setIfInBounds_toArray, List.set_cons_zero, List.set_cons_succ])
                            refine tkT 17 (.agg #[.int .i64 f.r, .int .i64 f.c]) rfl ?_
                            (try simp only [Act.put, List.getElem_toArray, List.getElem_cons_succ, List.getElem_cons_zero, List.setIfInBounds_toArray, List.set_cons_zero, List.set_cons_succ])
                            refine tkT 19 (.slice (some ⟨g, 0, none⟩) m6 cap6) rfl ?_
                            (try simp only [Act.put, List.getElem_toArray, List.getElem_cons_succ, List.getElem_cons_zero, List.setIfInBounds_toArray, List.set_cons_zero, List.set_cons_succ])
                            refine tkT 20 (.int .i64 a) rfl ?_
                            (try simp only [Act.put, List.getElem_toArray, List.getElem_cons_succ, List.getElem_cons_zero, List.setIfInBounds_toArray, List.set_cons_zero, List.set_cons_succ])
                            refine tkT 21 (.pointer (some ⟨g, a * 4, none⟩)) rfl ?_
                            (try simp only [Act.put, List.getElem_toArray, List.getElem_cons_succ, List.getElem_cons_zero, List.setIfInBounds_toArray, List.set_cons_zero, List.set_cons_succ])
                            refine tkT 22 (.pointer (some ⟨g, a * 4 + 2, none⟩)) rfl ?_
                            (try simp only [Act.put, List.getElem_toArray, List.getElem_cons_succ, List.getElem_cons_zero, List.setIfInBounds_toArray, List.set_cons_zero, List.set_cons_succ])
                            refine tkT 23 (.int .i64 e.t) rfl ?_
                            (try simp only [Act.put, List.getElem_toArray, List.getElem_cons_succ, List.getElem_cons_zero, List.setIfInBounds_toArray, List.set_cons_zero, List.set_cons_succ])
                            refine tkT 24 (.slice (some ⟨g, 0, none⟩) m6 cap6) rfl ?_
                            (try simp only [Act.put, List.getElem_toArray, List.getElem_cons_succ, List.getElem_cons_zero, List.setIfInBounds_toArray, List.set_cons_zero, List.set_cons_succ])
                            refine tkT 25 (.int .i64 b) rfl ?_
                            (try simp only [Act.put, List.getElem_toArray, List.getElem_cons_succ, List.getElem_cons_zero, List.setIfInBounds_toArray, List.set_cons_zero, List.set_cons_succ])
                            refine tkT 26 (.pointer (some ⟨g, b * 4, none⟩)) rfl ?_
                            (try simp only [Act.put, List.getElem_toArray, List.getElem_cons_succ, List.getElem_cons_zero, List.setIfInBounds_toArray, List.set_cons_zero, List.set_cons_succ])
                            refine tkT 27 (.pointer (some ⟨g, b * 4 + 3, none⟩)) rfl ?_
                            (try simp only [Act.put, List.getElem_toArray, List.getElem_cons_succ, List.getElem_cons_zero, List.setIfInBounds_toArray, List.set_cons_zero, List.set_cons_succ])
                            refine tkT 28 (.int .i64 f.v) rfl ?_
                            (try simp only [Act.put, List.getElem_toArray, List.getElem_cons_succ, List.getElem_cons_zero, List.setIfInBounds_toArray, List.set_cons_zero, List.set_cons_succ])
                            refine tkT 29 (.bool (decide (f.v < e.t))) rfl ?_
                            (try simp only [Act.put, List.getElem_toArray, List.getElem_cons_succ, List.getElem_cons_zero, List.setIfInBounds_toArray, List.set_cons_zero, List.set_cons_succ])
                            refine wpAnyH_ready (rs := [18]) (by kernel_rfl) (by simp) ?_
                            refine AllReadyH.cons rfl (fun K hK => ?_) ?_
                            · go_simp
                              (go_at_call 12; refine (HDC.out _ (by with_reducible (repeat' first | assumption | exact Below.refl _ _ | refine Below.drew ?_ | refine bdrewN ?_ _ | refine Below.setCell ?_ (by first | exact Nat.le_refl _ | (simp; done) | (simp; omega) | omega) _ | refine Below.alloc ?_ (by first | exact Nat.le_refl _ | (simp; done) | (simp; omega) | omega) _))).mono ?_; rintro e' w8 ⟨rfl, hb8⟩; have hB8 : Below W5.heap.size W5 w8 := bup (by with_reducible (repeat' first | assumption | exact Below.refl _ _ | refine Below.drew ?_ | refine bdrewN ?_ _ | refine Below.setCell ?_ (by first | exact Nat.le_refl _ | (simp; done) | (simp; omega) | omega) _ | refine Below.alloc ?_ (by first | exact Nat.le_refl _ | (simp; done) | (simp; omega) | omega) _)) hb8; have hR8 : Below wr.heap.size wr w8 := bup (by with_reducible (repeat' first | assumption | exact Below.refl _ _ | refine Below.drew ?_ | refine bdrewN ?_ _ | refine Below.setCell ?_ (by first | exact Nat.le_refl _ | (simp; done) | (simp; omega) | omega) _ | refine Below.alloc ?_ (by first | exact Nat.le_refl _ | (simp; done) | (simp; omega) | omega) _)) hb8; have g0 : w8.cell? ⟨g, a * 4, none⟩ = some (.int .i64 e.r) := (hR8.cell (p := ⟨g, a * 4, none⟩) lg).trans e0; have g1 : w8.cell? ⟨g, a * 4 + 1, none⟩ = some (.int .i64 e.c) := (hR8.cell (p := ⟨g, a * 4 + 1, none⟩) lg).trans e1; have g2 : w8.cell? ⟨g, a * 4 + 2, none⟩ = some (.int .i64 e.t) := (hR8.cell (p := ⟨g, a * 4 + 2, none⟩) lg).trans e2; have k0 : w8.cell? ⟨g, b * 4, none⟩ = some (.int .i64 f.r) := (hR8.cell (p := ⟨g, b * 4, none⟩) lg).trans f0; have k1 : w8.cell? ⟨g, b * 4 + 1, none⟩ = some (.int .i64 f.c) := (hR8.cell (p := ⟨g, b * 4 + 1, none⟩) lg).trans f1; have k3 : w8.cell? ⟨g, b * 4 + 3, none⟩ = some (.int .i64 f.v) := (hR8.cell (p := ⟨g, b * 4 + 3, none⟩) lg).trans f3; have lg8 : g < w8.heap.size := (by have := hR8.size; omega); clear hb8)
                              go_wp2_with fail
                              refine hK.out _ _ (by (try dsimp only); first | (with_reducible assumption) | ((repeat' apply And.intro) <;> (first | (go_keep; done) | (go_simp; done)))) (fun hHeld => ?_)
                              clear hK K
                              (try simp only [Act.put, List.getElem_toArray, List.getElem_cons_succ, List.getElem_cons_zero, List.setIfInBounds_toArray, List.set_cons_zero, List.set_cons_succ])
                              refine tkT 30 (.bool false) rfl ?_
                              (try simp only [Act.put, List.getElem_toArray, List.getElem_cons_succ, List.getElem_cons_zero, List.setIfInBounds_toArray, List.set_cons_zero, List.set_cons_succ])
                              refine tkT 31 (.bool false) rfl ?_
                              (try simp only [Act.put, List.getElem_toArray, List.getElem_cons_succ, List.getElem_cons_zero, List.setIfInBounds_toArray, List.set_cons_zero, List.set_cons_succ])
                              refine wpAnyH_done (by kernel_rfl) ?_ _
                              go_wp2
                              exact ⟨⟨b + 1, by go_num, by omega, by with_reducible (repeat' first | assumption | exact Below.refl _ _ | refine Below.drew ?_ | refine bdrewN ?_ _ | refine Below.setCell ?_ (by first | exact Nat.le_refl _ | (simp; done) | (simp; omega) | omega) _ | refine Below.alloc ?_ (by first | exact Nat.le_refl _ | (simp; done) | (simp; omega) | omega) _)⟩, by simp [intOf]; omega⟩
                            exact AllReadyH.nil
                          · have d13 : decide ((b : Int) < 12) = false := decide_eq_false h13
                            go_wp2
                            refine wp_region_held_drew (S := (fun w' => w'.cell? ⟨g, a * 4, none⟩ = some (.int .i64 e.r) ∧ w'.cell? ⟨g, a * 4 + 1, none⟩ = some (.int .i64 e.c) ∧ w'.cell? ⟨g, a * 4 + 2, none⟩ = some (.int .i64 e.t) ∧ w'.cell? ⟨g, b * 4, none⟩ = some (.int .i64 f.r) ∧ w'.cell? ⟨g, b * 4 + 1, none⟩ = some (.int .i64 f.c) ∧ w'.cell? ⟨g, b * 4 + 3, none⟩ = some (.int .i64 f.v))) (by kernel_rfl) (by (try dsimp only); ((repeat' apply And.intro) <;> (first | (go_keep; done) | (go_simp; done)))) (fun hHeld => ?_)
                            refine tkT 0 (.int .i64 a) rfl ?_
                            (try simp only [Act.put, List.getElem_toArray, List.getElem_cons_succ, List.getElem_cons_zero, List.setIfInBounds_toArray, List.set_cons_zero, List.set_cons_succ])
                            refine tkT 1 (.bool true) rfl ?_
                            (try simp only [Act.put, List.getElem_toArray, List.getElem_cons_succ, List.getElem_cons_zero, List.setIfInBounds_toArray, List.set_cons_zero, List.set_cons_succ])
                            refine tkT 2 (.bool true) rfl ?_
                            (try simp only [Act.put, List.getElem_toArray, List.getElem_cons_succ, List.getElem_cons_zero, List.setIfInBounds_toArray, List.set_cons_zero, List.set_cons_succ])
                            refine tkT 3 (.int .i64 b) rfl ?_
                            (try simp only [Act.put, List.getElem_toArray, List.getElem_cons_succ, List.getElem_cons_zero, List.setIfInBounds_toArray, List.set_cons_zero, List.set_cons_succ])
                            refine tkT 4 (.bool false) rfl ?_
                            (try simp only [Act.put, List.getElem_toArray, List.getElem_cons_succ, List.getElem_cons_zero, List.setIfInBounds_toArray, List.set_cons_zero, List.set_cons_succ])
                            refine tkT 5 (.bool false) rfl ?_
                            (try simp only [Act.put, List.getElem_toArray, List.getElem_cons_succ, List.getElem_cons_zero, List.setIfInBounds_toArray, List.set_cons_zero, List.set_cons_succ])
                            refine tkT 6 (.bool false) rfl ?_
                            (try simp only [Act.put, List.getElem_toArray, List.getElem_cons_succ, List.getElem_cons_zero, List.setIfInBounds_toArray, List.set_cons_zero, List.set_cons_succ])
                            refine tkU 7 rfl ?_
                            (try simp only [Act.put, List.getElem_toArray, List.getElem_cons_succ, List.getElem_cons_zero, List.setIfInBounds_toArray, List.set_cons_zero, List.set_cons_succ])
                            refine tkU 8 rfl ?_
                            refine tkU 9 rfl ?_
                            refine tkU 10 rfl ?_
                            refine tkU 11 rfl ?_
                            (try simp only [Act.put, List.getElem_toArray, List.getElem_cons_succ, List.getElem_cons_zero, List.setIfInBounds_toArray, List.set_cons_zero, List.set_cons_succ])
                            refine tkU 12 rfl ?_
                            refine tkU 13 rfl ?_
                            refine tkU 14 rfl ?_
                            refine tkU 15 rfl ?_
                            (try simp only [Act.put, List.getElem_toArray, List.getElem_cons_succ, List.getElem_cons_zero, List.setIfInBounds_toArray, List.set_cons_zero, List.set_cons_succ])
                            refine tkU 16 rfl ?_
                            refine tkU 17 rfl ?_
                            refine tkU 18 rfl ?_
                            refine tkU 19 rfl ?_
                            (try simp only [Act.put, List.getElem_toArray, List.getElem_cons_succ, List.getElem_cons_zero, List.setIfInBounds_toArray, List.set_cons_zero, List.set_cons_succ])
                            refine tkU 20 rfl ?_
                            refine tkU 21 rfl ?_
                            refine tkU 22 rfl ?_
                            refine tkU 23 rfl ?_
                            (try simp only [Act.put, List.getElem_toArray, List.getElem_cons_succ, List.getElem_cons_zero, List.setIfInBounds_toArray, List.set_cons_zero, List.set_cons_succ])
                            refine tkU 24 rfl ?_
                            refine tkU 25 rfl ?_
                            refine tkU 26 rfl ?_
                            refine tkU 27 rfl ?_
                            (try simp only [Act.put, List.getElem_toArray, List.getElem_cons_succ, List.getElem_cons_zero, List.setIfInBounds_toArray, List.set_cons_zero, List.set_cons_succ])
                            refine tkU 28 rfl ?_
                            refine tkU 29 rfl ?_
                            refine tkU 30 rfl ?_
                            (try simp only [Act.put, List.getElem_toArray, List.getElem_cons_succ, List.getElem_cons_zero, List.setIfInBounds_toArray, List.set_cons_zero, List.set_cons_succ])
                            refine tkT 31 (.bool false) rfl ?_
                            (try simp only [Act.put, List.getElem_toArray, List.getElem_cons_succ, List.getElem_cons_zero, List.setIfInBounds_toArray, List.set_cons_zero, List.set_cons_succ])
                            refine wpAnyH_done (by kernel_rfl) ?_ _
                            go_wp2
                            exact ⟨⟨b + 1, by go_num, by omega, by with_reducible (repeat' first | assumption | exact Below.refl _ _ | refine Below.drew ?_ | refine bdrewN ?_ _ | refine Below.setCell ?_ (by first | exact Nat.le_refl _ | (simp; done) | (simp; omega) | omega) _ | refine Below.alloc ?_ (by first | exact Nat.le_refl _ | (simp; done) | (simp; omega) | omega) _)⟩, by simp [intOf]; omega⟩
                        · have d12 : decide ((a : Int) < 12) = false := decide_eq_false h12
                          go_wp2
                          refine wp_region_held_drew (S := (fun w' => w'.cell? ⟨g, a * 4, none⟩ = some (.int .i64 e.r) ∧ w'.cell? ⟨g, a * 4 + 1, none⟩ = some (.int .i64 e.c) ∧ w'.cell? ⟨g, a * 4 + 2, none⟩ = some (.int .i64 e.t) ∧ w'.cell? ⟨g, b * 4, none⟩ = some (.int .i64 f.r) ∧ w'.cell? ⟨g, b * 4 + 1, none⟩ = some (.int .i64 f.c) ∧ w'.cell? ⟨g, b * 4 + 3, none⟩ = some (.int .i64 f.v))) (by kernel_rfl) (by (try dsimp only); ((repeat' apply And.intro) <;> (first | (go_keep; done) | (go_simp; done)))) (fun hHeld => ?_)
                          refine tkT 0 (.int .i64 a) rfl ?_
                          (try simp only [Act.put, List.getElem_toArray, List.getElem_cons_succ, List.getElem_cons_zero, List.setIfInBounds_toArray, List.set_cons_zero, List.set_cons_succ])
                          refine tkT 1 (.bool false) rfl ?_
                          (try simp only [Act.put, List.getElem_toArray, List.getElem_cons_succ, List.getElem_cons_zero, List.setIfInBounds_toArray, List.set_cons_zero, List.set_cons_succ])
                          refine tkT 2 (.bool false) rfl ?_
                          (try simp only [Act.put, List.getElem_toArray, List.getElem_cons_succ, List.getElem_cons_zero, List.setIfInBounds_toArray, List.set_cons_zero, List.set_cons_succ])
                          refine tkU 3 rfl ?_
                          (try simp only [Act.put, List.getElem_toArray, List.getElem_cons_succ, List.getElem_cons_zero, List.setIfInBounds_toArray, List.set_cons_zero, List.set_cons_succ])
                          refine tkU 4 rfl ?_
                          (try simp only [Act.put, List.getElem_toArray, List.getElem_cons_succ, List.getElem_cons_zero, List.setIfInBounds_toArray, List.set_cons_zero, List.set_cons_succ])
                          refine tkT 5 (.bool false) rfl ?_
                          (try simp only [Act.put, List.getElem_toArray, List.getElem_cons_succ, List.getElem_cons_zero, List.setIfInBounds_toArray, List.set_cons_zero, List.set_cons_succ])
                          refine tkT 6 (.bool false) rfl ?_
                          (try simp only [Act.put, List.getElem_toArray, List.getElem_cons_succ, List.getElem_cons_zero, List.setIfInBounds_toArray, List.set_cons_zero, List.set_cons_succ])
                          refine tkU 7 rfl ?_
                          (try simp only [Act.put, List.getElem_toArray, List.getElem_cons_succ, List.getElem_cons_zero, List.setIfInBounds_toArray, List.set_cons_zero, List.set_cons_succ])
                          refine tkU 8 rfl ?_
                          refine tkU 9 rfl ?_
                          refine tkU 10 rfl ?_
                          refine tkU 11 rfl ?_
                          (try simp only [Act.put, List.getElem_toArray, List.getElem_cons_succ, List.getElem_cons_zero, List.setIfInBounds_toArray, List.set_cons_zero, List.set_cons_succ])
                          refine tkU 12 rfl ?_
                          refine tkU 13 rfl ?_
                          refine tkU 14 rfl ?_
                          refine tkU 15 rfl ?_
                          (try simp only [Act.put, List.getElem_toArray, List.getElem_cons_succ, List.getElem_cons_zero, List.setIfInBounds_toArray, List.set_cons_zero, List.set_cons_succ])
                          refine tkU 16 rfl ?_
                          refine tkU 17 rfl ?_
                          refine tkU 18 rfl ?_
                          refine tkU 19 rfl ?_
                          (try simp only [Act.put, List.getElem_toArray, List.getElem_cons_succ, List.getElem_cons_zero, List.setIfInBounds_toArray, List.set_cons_zero, List.set_cons_succ])
                          refine tkU 20 rfl ?_
                          refine tkU 21 rfl ?_
                          refine tkU 22 rfl ?_
                          refine tkU 23 rfl ?_
                          (try simp only [Act.put, List.getElem_toArray, List.getElem_cons_succ, List.getElem_cons_zero, List.setIfInBounds_toArray, List.set_cons_zero, List.set_cons_succ])
                          refine tkU 24 rfl ?_
                          refine tkU 25 rfl ?_
                          refine tkU 26 rfl ?_
                          refine tkU 27 rfl ?_
                          (try simp only [Act.put, List.getElem_toArray, List.getElem_cons_succ, List.getElem_cons_zero, List.setIfInBounds_toArray, List.set_cons_zero, List.set_cons_succ])
                          refine tkU 28 rfl ?_
                          refine tkU 29 rfl ?_
                          refine tkU 30 rfl ?_
                          (try simp only [Act.put, List.getElem_toArray, List.getElem_cons_succ, List.getElem_cons_zero, List.setIfInBounds_toArray, List.set_cons_zero, List.set_cons_succ])
                          refine tkT 31 (.bool false) rfl ?_
                          (try simp only [Act.put, List.getElem_toArray, List.getElem_cons_succ, List.getElem_cons_zero, List.setIfInBounds_toArray, List.set_cons_zero, List.set_cons_succ])
                          refine wpAnyH_done (by kernel_rfl) ?_ _
                          go_wp2
                          exact ⟨⟨b + 1, by go_num, by omega, by with_reducible (repeat' first | assumption | exact Below.refl _ _ | refine Below.drew ?_ | refine bdrewN ?_ _ | refine Below.setCell ?_ (by first | exact Nat.le_refl _ | (simp; done) | (simp; omega) | omega) _ | refine Below.alloc ?_ (by first | exact Nat.le_refl _ | (simp; done) | (simp; omega) | omega) _)⟩, by simp [intOf]; omega⟩
                      · have hbm' : ¬ ((b : Int) < m6) := by omega
                        go_wp2
                        exact ⟨⟨a + 1, by go_num, by omega, by with_reducible (repeat' first | assumption | exact Below.refl _ _ | refine Below.drew ?_ | refine bdrewN ?_ _ | refine Below.setCell ?_ (by first | exact Nat.le_refl _ | (simp; done) | (simp; omega) | omega) _ | refine Below.alloc ?_ (by first | exact Nat.le_refl _ | (simp; done) | (simp; omega) | omega) _)⟩, by simp [intOf]; omega⟩
                  · have ham' : ¬ ((a : Int) < m6) := by omega
                    go_wp2
                    exact ⟨⟨i + 1, (.slice q6 m6 cap6), l6, T6, V6, la6, tu6, S6, L6, rfl, by go_num, by omega, by first | omega | (simp; omega), (show Cz _ _ _ _ _ _ _ _ _ from HC5.out.keep (by with_reducible (repeat' first | assumption | exact Below.refl _ _ | refine Below.drew ?_ | refine bdrewN ?_ _ | refine Below.setCell ?_ (by first | exact Nat.le_refl _ | (simp; done) | (simp; omega) | omega) _ | refine Below.alloc ?_ (by first | exact Nat.le_refl _ | (simp; done) | (simp; omega) | omega) _))), (show RowG _ _ _ _ _ _ _ from HR5.out.keep (by with_reducible (repeat' first | assumption | exact Below.refl _ _ | refine Below.drew ?_ | refine bdrewN ?_ _ | refine Below.setCell ?_ (by first | exact Nat.le_refl _ | (simp; done) | (simp; omega) | omega) _ | refine Below.alloc ?_ (by first | exact Nat.le_refl _ | (simp; done) | (simp; omega) | omega) _))), (show Wn _ _ _ _ _ from HW5.out), hB5.trans ((show Below W5.heap.size W5 _ from by with_reducible (repeat' first | assumption | exact Below.refl _ _ | refine Below.drew ?_ | refine bdrewN ?_ _ | refine Below.setCell ?_ (by first | exact Nat.le_refl _ | (simp; done) | (simp; omega) | omega) _ | refine Below.alloc ?_ (by first | exact Nat.le_refl _ | (simp; done) | (simp; omega) | omega) _)).mono z5)⟩, by simp [intOf]; omega⟩
            · as_aux_lemma =>
                have HIN : Hid (¬ ∀ e ∈ l5, ¬ (e.r = op.r ∧ e.c = op.c)) := hio
                clear hio
                have h0m : 0 < m := by have := some_in HIN.out; have := HM.out; omega
                obtain ⟨g, rfl, hg, _⟩ := hq5 h0m
                clear hq5
                go_wp2_with (first
                              | (go_at_call 7; refine (lat_in _ _ _ _ _ _ (HR.out.keep (by with_reducible (repeat' first | assumption | exact Below.refl _ _ | refine Below.drew ?_ | refine bdrewN ?_ _ | refine Below.setCell ?_ (by first | exact Nat.le_refl _ | (simp; done) | (simp; omega) | omega) _ | refine Below.alloc ?_ (by first | exact Nat.le_refl _ | (simp; done) | (simp; omega) | omega) _))) HLl.out HIN.out).mono ?_; rintro e w1 ⟨p, f, rfl, hf, hfr, hfc, hb⟩; have HF : Hid (l5[p]? = some f) := hf; have HFR : Hid (f.r = op.r) := hfr; have HFC : Hid (f.c = op.c) := hfc; have hB1 : Below w.heap.size w w1 := bup (by with_reducible (repeat' first | assumption | exact Below.refl _ _ | refine Below.drew ?_ | refine bdrewN ?_ _ | refine Below.setCell ?_ (by first | exact Nat.le_refl _ | (simp; done) | (simp; omega) | omega) _ | refine Below.alloc ?_ (by first | exact Nat.le_refl _ | (simp; done) | (simp; omega) | omega) _)) hb; have hR1 : Below wr.heap.size wr w1 := bup (by with_reducible (repeat' first | assumption | exact Below.refl _ _ | refine Below.drew ?_ | refine bdrewN ?_ _ | refine Below.setCell ?_ (by first | exact Nat.le_refl _ | (simp; done) | (simp; omega) | omega) _ | refine Below.alloc ?_ (by first | exact Nat.le_refl _ | (simp; done) | (simp; omega) | omega) _)) hb; have oX1 : Own w1 wr.heap.size #[.int .i64 2, .int .i64 op.r, .int .i64 op.c, .int .i64 op.r2, .int .i64 op.c2] := Own.keep (by with_reducible (repeat' first | assumption | refine Own.drew ?_ | refine Own.drewN ?_ _ | (refine Own.at ?_; first | rfl | (simp; done)) | refine Own.past ?_ _)) hb; have x10 : w1.cell? ⟨wr.heap.size, 0, none⟩ = some (.int .i64 2) := oX1.cell 0; have x11 : w1.cell? ⟨wr.heap.size, 1, none⟩ = some (.int .i64 op.r) := oX1.cell 1; have x12 : w1.cell? ⟨wr.heap.size, 2, none⟩ = some (.int .i64 op.c) := oX1.cell 2; have lX1 := oX1.lt; have hpm : p < m := (by have := HM.out; have := (List.getElem?_eq_some_iff.1 hf).1; omega); have hpb : ((p : Int) == (m : Int)) = false := (by simp; omega); have hpd : decide ((p : Int) < (m : Int)) = true := decide_eq_true (by omega); clear hb hf hfr hfc)
                              | (go_at_call 8; refine (HMy.out _).mono ?_; rintro e w2 ⟨rfl, hb⟩; have hB2 : Below w.heap.size w w2 := bup (by with_reducible (repeat' first | assumption | exact Below.refl _ _ | refine Below.drew ?_ | refine bdrewN ?_ _ | refine Below.setCell ?_ (by first | exact Nat.le_refl _ | (simp; done) | (simp; omega) | omega) _ | refine Below.alloc ?_ (by first | exact Nat.le_refl _ | (simp; done) | (simp; omega) | omega) _)) hb; have hR2 : Below wr.heap.size wr w2 := bup (by with_reducible (repeat' first | assumption | exact Below.refl _ _ | refine Below.drew ?_ | refine bdrewN ?_ _ | refine Below.setCell ?_ (by first | exact Nat.le_refl _ | (simp; done) | (simp; omega) | omega) _ | refine Below.alloc ?_ (by first | exact Nat.le_refl _ | (simp; done) | (simp; omega) | omega) _)) hb; have oX2 : Own w2 wr.heap.size #[.int .i64 2, .int .i64 op.r, .int .i64 op.c, .int .i64 op.r2, .int .i64 op.c2] := Own.keep (by with_reducible (repeat' first | assumption | refine Own.drew ?_ | refine Own.drewN ?_ _ | (refine Own.at ?_; first | rfl | (simp; done)) | refine Own.past ?_ _)) hb; have x20 : w2.cell? ⟨wr.heap.size, 0, none⟩ = some (.int .i64 2) := oX2.cell 0; have x21 : w2.cell? ⟨wr.heap.size, 1, none⟩ = some (.int .i64 op.r) := oX2.cell 1; have x22 : w2.cell? ⟨wr.heap.size, 2, none⟩ = some (.int .i64 op.c) := oX2.cell 2; have lX2 := oX2.lt; have HX2 : Hid (Nx w.heap.size w2 N most last turns S i L (.slice (some ⟨g, 0, none⟩) m cap5) l5 wr.heap.size #[.int .i64 2, .int .i64 op.r, .int .i64 op.c, .int .i64 op.r2, .int .i64 op.c2]) := (show Nx _ _ _ _ _ _ _ _ _ _ _ _ _ from Nx.begin HC.out HR.out hR2 oX2 (Nat.le_refl _) (by omega)); clear hb)
                              | (go_at_call 11; refine (nx_drop (HX2.out.keep (by with_reducible (repeat' first | assumption | exact Below.refl _ _ | refine Below.drew ?_ | refine bdrewN ?_ _ | refine Below.setCell ?_ (by first | exact Nat.le_refl _ | (simp; done) | (simp; omega) | omega) _ | refine Below.alloc ?_ (by first | exact Nat.le_refl _ | (simp; done) | (simp; omega) | omega) _))) (by omega) op.r op.c ok1 ok2).mono ?_; rintro e w3 ⟨rfl, q1, q2⟩; have HX3 : Hid (Nx w.heap.size w3 N most last turns (upS S op.r op.c none) (i + 1) (⟨op.r, op.c⟩ :: L) (.slice (some ⟨g, 0, none⟩) m cap5) l5 wr.heap.size #[.int .i64 2, .int .i64 op.r, .int .i64 op.c, .int .i64 op.r2, .int .i64 op.c2]) := q1; have hB3 : Below w.heap.size w w3 := (show Below w.heap.size w _ from by with_reducible (repeat' first | assumption | exact Below.refl _ _ | refine Below.drew ?_ | refine bdrewN ?_ _ | refine Below.setCell ?_ (by first | exact Nat.le_refl _ | (simp; done) | (simp; omega) | omega) _ | refine Below.alloc ?_ (by first | exact Nat.le_refl _ | (simp; done) | (simp; omega) | omega) _)).trans q2; have z3 := hB3.size; have oX3 := HX3.out.own; have x30 : w3.cell? ⟨wr.heap.size, 0, none⟩ = some (.int .i64 2) := oX3.cell 0; have x31 : w3.cell? ⟨wr.heap.size, 1, none⟩ = some (.int .i64 op.r) := oX3.cell 1; have x32 : w3.cell? ⟨wr.heap.size, 2, none⟩ = some (.int .i64 op.c) := oX3.cell 2; have lX3 := oX3.lt; clear q1 q2; have gj0 : w3.cell? ⟨g, p * 4, none⟩ = some (.int .i64 f.r) := row_at HX3.out.row HF.out 0 _ rfl; have gf0 : w3.frozen? ⟨g, p * 4, none⟩ = false := row_fro HX3.out.row _; have gj1 : w3.cell? ⟨g, p * 4 + 1, none⟩ = some (.int .i64 f.c) := row_at HX3.out.row HF.out 1 _ rfl; have gf1 : w3.frozen? ⟨g, p * 4 + 1, none⟩ = false := row_fro HX3.out.row _; have gj2 : w3.cell? ⟨g, p * 4 + 2, none⟩ = some (.int .i64 f.t) := row_at HX3.out.row HF.out 2 _ rfl; have gf2 : w3.frozen? ⟨g, p * 4 + 2, none⟩ = false := row_fro HX3.out.row _; have gj3 : w3.cell? ⟨g, p * 4 + 3, none⟩ = some (.int .i64 f.v) := row_at HX3.out.row HF.out 3 _ rfl; have gf3 : w3.frozen? ⟨g, p * 4 + 3, none⟩ = false := row_fro HX3.out.row _; have lg : g < w3.heap.size := (HX3.out.row.lt g rfl).2))
                obtain ⟨W4, hW4⟩ : ∃ W4 : World, W4 = (((w3.setCell ⟨g, p * 4, none⟩ (.int .i64 0)).setCell ⟨g, p * 4 + 1, none⟩ (.int .i64 0)).setCell ⟨g, p * 4 + 2, none⟩ (.int .i64 0)).setCell ⟨g, p * 4 + 3, none⟩ (.int .i64 0) := ⟨_, rfl⟩
                rw [← hW4]
                have hX4 : Nx w.heap.size W4 N most last turns (upS S op.r op.c none) (i + 1) (⟨op.r, op.c⟩ :: L) (.slice (some ⟨g, 0, none⟩) m cap5) (l5.set p ⟨0, 0, 0, 0⟩) wr.heap.size #[.int .i64 2, .int .i64 op.r, .int .i64 op.c, .int .i64 op.r2, .int .i64 op.c2] ∧ Below w.heap.size w W4 := (by rw [hW4]; exact nx_zero HX3.out hB3 HF.out)
                have HX4 : Hid (Nx w.heap.size W4 N most last turns (upS S op.r op.c none) (i + 1) (⟨op.r, op.c⟩ :: L) (.slice (some ⟨g, 0, none⟩) m cap5) (l5.set p ⟨0, 0, 0, 0⟩) wr.heap.size #[.int .i64 2, .int .i64 op.r, .int .i64 op.c, .int .i64 op.r2, .int .i64 op.c2]) := hX4.1
                have hB4 := hX4.2
                clear hX4 hW4
                obtain ⟨W5, hW5⟩ : ∃ W5 : World, W5 = W4 := ⟨_, rfl⟩
                obtain ⟨q6, m6, cap6, hv6, l6, T6, V6, la6, tu6, S6, L6, hl6, HC5, HR5, HW5⟩ : ∃ (q6 : Option Addr) (m6 cap6 : Nat), Value.slice (some ⟨g, 0, none⟩) m cap5 = .slice q6 m6 cap6 ∧ ∃ (l6 : List We) (T6 V6 : Int → Int → Int) (la6 tu6 : Int) (S6 : St) (L6 : List Cl), l6.length ≤ i + 1 ∧ Hid (Cz (Fv w.heap.size (.slice q6 m6 cap6)) W5 N most la6 tu6 S6 (i + 1) L6) ∧ Hid (RowW W5 w.heap.size (.slice q6 m6 cap6) l6) ∧ Hid (Wn S6 T6 V6 l6 ((i : Int) + 1)) := ⟨(some ⟨g, 0, none⟩), m, cap5, rfl, (l5.set p ⟨0, 0, 0, 0⟩), (upI T op.r op.c 0), (upI V op.r op.c 0), last, turns, (upS S op.r op.c none), (⟨op.r, op.c⟩ :: L), (by first | omega | (simp; omega)), (show Cz _ _ _ _ _ _ _ _ _ from by rw [hW5]; exact (HX4.out).czF), (show RowG _ _ _ _ _ _ _ from by rw [hW5]; exact (HX4.out).row), (show Wn _ _ _ _ _ from HW.out.dropIn HX2.out.cz.low HX2.out.cz.dom HF.out HFR.out HFC.out)⟩
                have hB5 : Below w.heap.size w W5 := (by rw [hW5]; exact hB4)
                rw [hv6, ← hW5]
                clear hW5 hv6
                clear HX2 HC HR HW HMy
                obtain ⟨hml, hmc, hmc2, hq5⟩ := row_q HR5.out
                have HQ5 : Hid _ := hq5
                have HL6 : Hid (m6 = l6.length) := hml
                have b5 : Below W5.heap.size W5 W5 := Below.refl _ _
                have z5 := hB5.size
                clear hq5 hml
                go_loopw [13] (fun u w' => ∃ a : Nat, u = .int .i64 a ∧ a ≤ m6 ∧ Below W5.heap.size W5 w') (fun u _ => m6 - (intOf u).toNat)
                case atStart => exact ⟨0, rfl, by omega, b5⟩
                case round =>
                  clear b5
                  obtain ⟨a, rfl, ha, hB6⟩ := hrel
                  have z6 := hB6.size
                  by_cases ham : a < m6
                  · have ham' : (a : Int) < m6 := by omega
                    go_wp2
                    go_loopw [14] (fun u w' => ∃ b : Nat, u = .int .i64 b ∧ b ≤ m6 ∧ Below W5.heap.size W5 w') (fun u _ => m6 - (intOf u).toNat)
                    case atStart => exact ⟨0, rfl, by omega, by with_reducible (repeat' first | assumption | exact Below.refl _ _ | refine Below.drew ?_ | refine bdrewN ?_ _ | refine Below.setCell ?_ (by first | exact Nat.le_refl _ | (simp; done) | (simp; omega) | omega) _ | refine Below.alloc ?_ (by first | exact Nat.le_refl _ | (simp; done) | (simp; omega) | omega) _)⟩
                    case round =>
                      clear hB6 z6
                      obtain ⟨b, rfl, hb, hB7⟩ := hrel
                      have z7 := hB7.size
                      by_cases hbm : b < m6
                      · have hbm' : (b : Int) < m6 := by omega
                        obtain ⟨e, he⟩ : ∃ e, l6[a]? = some e := ⟨_, List.getElem?_eq_getElem (by have := HL6.out; omega)⟩
                        obtain ⟨f, hf⟩ : ∃ f, l6[b]? = some f := ⟨_, List.getElem?_eq_getElem (by have := HL6.out; omega)⟩
                        obtain ⟨g, rfl, hg, hcl⟩ := HQ5.out (by omega)
                        have e0 : wr.cell? ⟨g, a * 4, none⟩ = some (.int .i64 e.r) := (hB7.cell (p := ⟨g, a * 4, none⟩) hg).trans (hcl a e he 0 _ rfl)
                        have e1 : wr.cell? ⟨g, a * 4 + 1, none⟩ = some (.int .i64 e.c) := (hB7.cell (p := ⟨g, a * 4 + 1, none⟩) hg).trans (hcl a e he 1 _ rfl)
                        have e2 : wr.cell? ⟨g, a * 4 + 2, none⟩ = some (.int .i64 e.t) := (hB7.cell (p := ⟨g, a * 4 + 2, none⟩) hg).trans (hcl a e he 2 _ rfl)
                        have f0 : wr.cell? ⟨g, b * 4, none⟩ = some (.int .i64 f.r) := (hB7.cell (p := ⟨g, b * 4, none⟩) hg).trans (hcl b f hf 0 _ rfl)
                        have f1 : wr.cell? ⟨g, b * 4 + 1, none⟩ = some (.int .i64 f.c) := (hB7.cell (p := ⟨g, b * 4 + 1, none⟩) hg).trans (hcl b f hf 1 _ rfl)
                        have f3 : wr.cell? ⟨g, b * 4 + 3, none⟩ = some (.int .i64 f.v) := (hB7.cell (p := ⟨g, b * 4 + 3, none⟩) hg).trans (hcl b f hf 3 _ rfl)
                        have lg : g < wr.heap.size := by omega
                        have HDC : Hid (∀ W, Below W5.heap.size W5 W → Calls Try.prog 12 #[.pointer (some ⟨N, 0, none⟩), .agg #[.int .i64 e.r, .int .i64 e.c], .agg #[.int .i64 f.r, .int .i64 f.c]] W fun e' w' => e' = .returned (.bool (decide (f.v < e.t))) ∧ Below W.heap.size W w') := (show _ from fun W h1 => (cz_newer (HC5.out.keep h1) e.r e.c f.r f.c (HW5.out.i64 e (List.mem_of_getElem? he)).1 (HW5.out.i64 e (List.mem_of_getElem? he)).2 (HW5.out.i64 f (List.mem_of_getElem? hf)).1 (HW5.out.i64 f (List.mem_of_getElem? hf)).2).mono (fun e' w' q => by rw [dec_newer HW5.out he hf] at q; exact q))
                        clear hcl he hf
                        by_cases h12 : (a : Int) < 12
                        · have d12 : decide ((a : Int) < 12) = true := decide_eq_true h12
                          by_cases h13 : (b : Int) < 12
                          · have d13 : decide ((b : Int) < 12) = true := decide_eq_true h13
                            go_wp2
                            refine wp_region_held_drew (S := (fun w' => w'.cell? ⟨g, a * 4, none⟩ = some (.int .i64 e.r) ∧ w'.cell? ⟨g, a * 4 + 1, none⟩ = some (.int .i64 e.c) ∧ w'.cell? ⟨g, a * 4 + 2, none⟩ = some (.int .i64 e.t) ∧ w'.cell? ⟨g, b * 4, none⟩ = some (.int .i64 f.r) ∧ w'.cell? ⟨g, b * 4 + 1, none⟩ = some (.int .i64 f.c) ∧ w'.cell? ⟨g, b * 4 + 3, none⟩ = some (.int .i64 f.v))) (by kernel_rfl) (by (try dsimp only); ((repeat' apply And.intro) <;> (first | (go_keep; done) | (go_simp; done)))) (fun hHeld => ?_)
                            refine tkT 0 (.int .i64 a) rfl ?_
                            (try simp only [Act.put, List.getElem_toArray, List.getElem_cons_succ, List.getElem_cons_zero, List.setIfInBounds_toArray, List.set_cons_zero, List.set_cons_succ])
                            refine tkT 1 (.bool true) rfl ?_
                            (try simp only [Act.put, List.getElem_toArray, List.getElem_cons_succ, List.getElem_cons_zero, List.setIfInBounds_toArray, List.set_cons_zero, List.set_cons_succ])
                            refine tkT 2 (.bool true) rfl ?_
                            (try simp only [Act.put, List.getElem_toArray, List.getElem_cons_succ, List.getElem_cons_zero, List.setIfInBounds_toArray, List.set_cons_zero, List.set_cons_succ])
                            refine tkT 3 (.int .i64 b) rfl ?_
                            (try simp only [Act.put, List.getElem_toArray, List.getElem_cons_succ, List.getElem_cons_zero, List.setIfInBounds_toArray, List.set_cons_zero, List.set_cons_succ])
                            refine tkT 4 (.bool true) rfl ?_
                            (try simp only [Act.put, List.getElem_toArray, List.getElem_cons_succ, List.getElem_cons_zero, List.setIfInBounds_toArray, List.set_cons_zero, List.set_cons_succ])
                            refine tkT 5 (.bool true) rfl ?_
                            (try simp only [Act.put, List.getElem_toArray, List.getElem_cons_succ, List.getElem_cons_zero, List.setIfInBounds_toArray, List.set_cons_zero, List.set_cons_succ])
                            refine tkT 6 (.bool true) rfl ?_
                            (try simp only [Act.put, List.getElem_toArray, List.getElem_cons_succ, List.getElem_cons_zero, List.setIfInBounds_toArray, List.set_cons_zero, List.set_cons_succ])
                            refine tkT 7 (.pointer (some ⟨N, 0, none⟩)) rfl ?_
                            (try simp only [Act.put, List.getElem_toArray, List.getElem_cons_succ, List.getElem_cons_zero, List.setIfInBounds_toArray, List.set_cons_zero, List.set_cons_succ])
                            refine tkT 8 (.slice (some ⟨g, 0, none⟩) m6 cap6) rfl ?_
                            (try simp only [Act.put, List.getElem_toArray, List.getElem_cons_succ, List.getElem_cons_zero, List.setIfInBounds_toArray, List.set_cons_zero, List.set_cons_succ])
                            refine tkT 9 (.int .i64 a) rfl ?_
                            (try simp only [Act.put, List.getElem_toArray, List.getElem_cons_succ, List.getElem_cons_zero, List.setIfInBounds_toArray, List.set_cons_zero, List.set_cons_succ])
                            refine tkT 10 (.pointer (some ⟨g, a * 4, none⟩)) rfl ?_
                            (try simp only [Act.put, List.getElem_toArray, List.getElem_cons_succ, List.getElem_cons_zero, List.setIfInBounds_toArray, List.set_cons_zero, List.set_cons_succ])
                            refine tkT 11 (.pointer (some ⟨g, a * 4, none⟩)) rfl ?_
                            (try simp only [Act.put, List.getElem_toArray, List.getElem_cons_succ, List.getElem_cons_zero, List.setIfInBounds_toArray, List.set_cons_zero, List.set_cons_succ])
                            refine tkT 12 (.agg #[.int .i64 e.r, .int .i64 e.c]) rfl ?_
                            (try simp only [Act.put, List.getElem_toArray, List.getElem_cons_succ, List.getElem_cons_zero, List.setIfInBounds_toArray, List.set_cons_zero, List.set_cons_succ])
                            refine tkT 13 (.slice (some ⟨g, 0, none⟩) m6 cap6) rfl ?_
                            (try simp only [Act.put, List.getElem_toArray, List.getElem_cons_succ, List.getElem_cons_zero, List.setIfInBounds_toArray, List.set_cons_zero, List.set_cons_succ])
                            refine tkT 14 (.int .i64 b) rfl ?_
                            (try simp only [Act.put, List.getElem_toArray, List.getElem_cons_succ, List.getElem_cons_zero, List.setIfInBounds_toArray, List.set_cons_zero, List.set_cons_succ])
                            refine tkT 15 (.pointer (some ⟨g, b * 4, none⟩)) rfl ?_
                            (try simp only [Act.put, List.getElem_toArray, List.getElem_cons_succ, List.getElem_cons_zero, List.setIfInBounds_toArray, List.set_cons_zero, List.set_cons_succ])
                            refine tkT 16 (.pointer (some ⟨g, b * 4, none⟩)) rfl ?_
                            (try simp only [Act.put, List.getElem_toArray, List.getElem_cons_succ, List.getElem_cons_zero, List.setIfInBounds_toArray, List.set_cons_zero, List.set_cons_succ])
                            refine tkT 17 (.agg #[.int .i64 f.r, .int .i64 f.c]) rfl ?_
                            (try simp only [Act.put, List.getElem_toArray, List.getElem_cons_succ, List.getElem_cons_zero, List.setIfInBounds_toArray, List.set_cons_zero, List.set_cons_succ])
                            refine tkT 19 (.slice (some ⟨g, 0, none⟩) m6 cap6) rfl ?_
                            (try simp only [Act.put, List.getElem_toArray, List.getElem_cons_succ, List.getElem_cons_zero, List.setIfInBounds_toArray, List.set_cons_zero, List.set_cons_succ])
                            refine tkT 20 (.int .i64 a) rfl ?_
                            (try simp only [Act.put, List.getElem_toArray, List.getElem_cons_succ, List.getElem_cons_zero, List.setIfInBounds_toArray, List.set_cons_zero, List.set_cons_succ])
                            refine tkT 21 (.pointer (some ⟨g, a * 4, none⟩)) rfl ?_
                            (try simp only [Act.put, List.getElem_toArray, List.getElem_cons_succ, List.getElem_cons_zero, List.setIfInBounds_toArray, List.set_cons_zero, List.set_cons_succ])
                            refine tkT 22 (.pointer (some ⟨g, a * 4 + 2, none⟩)) rfl ?_
                            (try simp only [Act.put, List.getElem_toArray, List.getElem_cons_succ, List.getElem_cons_zero, List.setIfInBounds_toArray, List.set_cons_zero, List.set_cons_succ])
                            refine tkT 23 (.int .i64 e.t) rfl ?_
                            (try simp only [Act.put, List.getElem_toArray, List.getElem_cons_succ, List.getElem_cons_zero, List.setIfInBounds_toArray, List.set_cons_zero, List.set_cons_succ])
                            refine tkT 24 (.slice (some ⟨g, 0, none⟩) m6 cap6) rfl ?_
                            (try simp only [Act.put, List.getElem_toArray, List.getElem_cons_succ, List.getElem_cons_zero, List.setIfInBounds_toArray, List.set_cons_zero, List.set_cons_succ])
                            refine tkT 25 (.int .i64 b) rfl ?_
                            (try simp only [Act.put, List.getElem_toArray, List.getElem_cons_succ, List.getElem_cons_zero, List.setIfInBounds_toArray, List.set_cons_zero, List.set_cons_succ])
                            refine tkT 26 (.pointer (some ⟨g, b * 4, none⟩)) rfl ?_
                            (try simp only [Act.put, List.getElem_toArray, List.getElem_cons_succ, List.getElem_cons_zero, List.setIfInBounds_toArray, List.set_cons_zero, List.set_cons_succ])
                            refine tkT 27 (.pointer (some ⟨g, b * 4 + 3, none⟩)) rfl ?_
                            (try simp only [Act.put, List.getElem_toArray, List.getElem_cons_succ, List.getElem_cons_zero, List.setIfInBounds_toArray, List.set_cons_zero, List.set_cons_succ])
                            refine tkT 28 (.int .i64 f.v) rfl ?_
                            (try simp only [Act.put, List.getElem_toArray, List.getElem_cons_succ, List.getElem_cons_zero, List.setIfInBounds_toArray, List.set_cons_zero, List.set_cons_succ])
                            refine tkT 29 (.bool (decide (f.v < e.t))) rfl ?_
                            (try simp only [Act.put, List.getElem_toArray, List.getElem_cons_succ, List.getElem_cons_zero, List.setIfInBounds_toArray, List.set_cons_zero, List.set_cons_succ])
                            refine wpAnyH_ready (rs := [18]) (by kernel_rfl) (by simp) ?_
                            refine AllReadyH.cons rfl (fun K hK => ?_) ?_
                            · go_simp
                              (go_at_call 12; refine (HDC.out _ (by with_reducible (repeat' first | assumption | exact Below.refl _ _ | refine Below.drew ?_ | refine bdrewN ?_ _ | refine Below.setCell ?_ (by first | exact Nat.le_refl _ | (simp; done) | (simp; omega) | omega) _ | refine Below.alloc ?_ (by first | exact Nat.le_refl _ | (simp; done) | (simp; omega) | omega) _))).mono ?_; rintro e' w8 ⟨rfl, hb8⟩; have hB8 : Below W5.heap.size W5 w8 := bup (by with_reducible (repeat' first | assumption | exact Below.refl _ _ | refine Below.drew ?_ | refine bdrewN ?_ _ | refine Below.setCell ?_ (by first | exact Nat.le_refl _ | (simp; done) | (simp; omega) | omega) _ | refine Below.alloc ?_ (by first | exact Nat.le_refl _ | (simp; done) | (simp; omega) | omega) _)) hb8; have hR8 : Below wr.heap.size wr w8 := bup (by with_reducible (repeat' first | assumption | exact Below.refl _ _ | refine Below.drew ?_ | refine bdrewN ?_ _ | refine Below.setCell ?_ (by first | exact Nat.le_refl _ | (simp; done) | (simp; omega) | omega) _ | refine Below.alloc ?_ (by first | exact Nat.le_refl _ | (simp; done) | (simp; omega) | omega) _)) hb8; have g0 : w8.cell? ⟨g, a * 4, none⟩ = some (.int .i64 e.r) := (hR8.cell (p := ⟨g, a * 4, none⟩) lg).trans e0; have g1 : w8.cell? ⟨g, a * 4 + 1, none⟩ = some (.int .i64 e.c) := (hR8.cell (p := ⟨g, a * 4 + 1, none⟩) lg).trans e1; have g2 : w8.cell? ⟨g, a * 4 + 2, none⟩ = some (.int .i64 e.t) := (hR8.cell (p := ⟨g, a * 4 + 2, none⟩) lg).trans e2; have k0 : w8.cell? ⟨g, b * 4, none⟩ = some (.int .i64 f.r) := (hR8.cell (p := ⟨g, b * 4, none⟩) lg).trans f0; have k1 : w8.cell? ⟨g, b * 4 + 1, none⟩ = some (.int .i64 f.c) := (hR8.cell (p := ⟨g, b * 4 + 1, none⟩) lg).trans f1; have k3 : w8.cell? ⟨g, b * 4 + 3, none⟩ = some (.int .i64 f.v) := (hR8.cell (p := ⟨g, b * 4 + 3, none⟩) lg).trans f3; have lg8 : g < w8.heap.size := (by have := hR8.size; omega); clear hb8)
                              go_wp2_with fail
                              refine hK.out _ _ (by (try dsimp only); first | (with_reducible assumption) | ((repeat' apply And.intro) <;> (first | (go_keep; done) | (go_simp; done)))) (fun hHeld => ?_)
                              clear hK K
                              (try simp only [Act.put, List.getElem_toArray, List.getElem_cons_succ, List.getElem_cons_zero, List.setIfInBounds_toArray, List.set_cons_zero, List.set_cons_succ])
                              refine tkT 30 (.bool false) rfl ?_
                              (try simp only [Act.put, List.getElem_toArray, List.getElem_cons_succ, List.getElem_cons_zero, List.setIfInBounds_toArray, List.set_cons_zero, List.set_cons_succ])
                              refine tkT 31 (.bool false) rfl ?_
                              (try simp only [Act.put, List.getElem_toArray, List.getElem_cons_succ, List.getElem_cons_zero, List.setIfInBounds_toArray, List.set_cons_zero, List.set_cons_succ])
                              refine wpAnyH_done (by kernel_rfl) ?_ _
                              go_wp2
                              exact ⟨⟨b + 1, by go_num, by omega, by with_reducible (repeat' first | assumption | exact Below.refl _ _ | refine Below.drew ?_ | refine bdrewN ?_ _ | refine Below.setCell ?_ (by first | exact Nat.le_refl _ | (simp; done) | (simp; omega) | omega) _ | refine Below.alloc ?_ (by first | exact Nat.le_refl _ | (simp; done) | (simp; omega) | omega) _)⟩, by simp [intOf]; omega⟩
                            exact AllReadyH.nil
                          · have d13 : decide ((b : Int) < 12) = false := decide_eq_false h13
                            go_wp2
                            refine wp_region_held_drew (S := (fun w' => w'.cell? ⟨g, a * 4, none⟩ = some (.int .i64 e.r) ∧ w'.cell? ⟨g, a * 4 + 1, none⟩ = some (.int .i64 e.c) ∧ w'.cell? ⟨g, a * 4 + 2, none⟩ = some (.int .i64 e.t) ∧ w'.cell? ⟨g, b * 4, none⟩ = some (.int .i64 f.r) ∧ w'.cell? ⟨g, b * 4 + 1, none⟩ = some (.int .i64 f.c) ∧ w'.cell? ⟨g, b * 4 + 3, none⟩ = some (.int .i64 f.v))) (by kernel_rfl) (by (try dsimp only); ((repeat' apply And.intro) <;> (first | (go_keep; done) | (go_simp; done)))) (fun hHeld => ?_)
                            refine tkT 0 (.int .i64 a) rfl ?_
                            (try simp only [Act.put, List.getElem_toArray, List.getElem_cons_succ, List.getElem_cons_zero, List.setIfInBounds_toArray, List.set_cons_zero, List.set_cons_succ])
                            refine tkT 1 (.bool true) rfl ?_
                            (try simp only [Act.put, List.getElem_toArray, List.getElem_cons_succ, List.getElem_cons_zero, List.setIfInBounds_toArray, List.set_cons_zero, List.set_cons_succ])
                            refine tkT 2 (.bool true) rfl ?_
                            (try simp only [Act.put, List.getElem_toArray, List.getElem_cons_succ, List.getElem_cons_zero, List.setIfInBounds_toArray, List.set_cons_zero, List.set_cons_succ])
                            refine tkT 3 (.int .i64 b) rfl ?_
                            (try simp only [Act.put, List.getElem_toArray, List.getElem_cons_succ, List.getElem_cons_zero, List.setIfInBounds_toArray, List.set_cons_zero, List.set_cons_succ])
                            refine tkT 4 (.bool false) rfl ?_
                            (try simp only [Act.put, List.getElem_toArray, List.getElem_cons_succ, List.getElem_cons_zero, List.setIfInBounds_toArray, List.set_cons_zero, List.set_cons_succ])
                            refine tkT 5 (.bool false) rfl ?_
                            (try simp only [Act.put, List.getElem_toArray, List.getElem_cons_succ, List.getElem_cons_zero, List.setIfInBounds_toArray, List.set_cons_zero, List.set_cons_succ])
                            refine tkT 6 (.bool false) rfl ?_
                            (try simp only [Act.put, List.getElem_toArray, List.getElem_cons_succ, List.getElem_cons_zero, List.setIfInBounds_toArray, List.set_cons_zero, List.set_cons_succ])
                            refine tkU 7 rfl ?_
                            (try simp only [Act.put, List.getElem_toArray, List.getElem_cons_succ, List.getElem_cons_zero, List.setIfInBounds_toArray, List.set_cons_zero, List.set_cons_succ])
                            refine tkU 8 rfl ?_
                            refine tkU 9 rfl ?_
                            refine tkU 10 rfl ?_
                            refine tkU 11 rfl ?_
                            (try simp only [Act.put, List.getElem_toArray, List.getElem_cons_succ, List.getElem_cons_zero, List.setIfInBounds_toArray, List.set_cons_zero, List.set_cons_succ])
                            refine tkU 12 rfl ?_
                            refine tkU 13 rfl ?_
                            refine tkU 14 rfl ?_
                            refine tkU 15 rfl ?_
                            (try simp only [Act.put, List.getElem_toArray, List.getElem_cons_succ, List.getElem_cons_zero, List.setIfInBounds_toArray, List.set_cons_zero, List.set_cons_succ])
                            refine tkU 16 rfl ?_
                            refine tkU 17 rfl ?_
                            refine tkU 18 rfl ?_
                            refine tkU 19 rfl ?_
                            (try simp only [Act.put, List.getElem_toArray, List.getElem_cons_succ, List.getElem_cons_zero, List.setIfInBounds_toArray, List.set_cons_zero, List.set_cons_succ])
                            refine tkU 20 rfl ?_
                            refine tkU 21 rfl ?_
                            refine tkU 22 rfl ?_
                            refine tkU 23 rfl ?_
                            (try simp only [Act.put, List.getElem_toArray, List.getElem_cons_succ, List.getElem_cons_zero, List.setIfInBounds_toArray, List.set_cons_zero, List.set_cons_succ])
                            refine tkU 24 rfl ?_
                            refine tkU 25 rfl ?_
                            refine tkU 26 rfl ?_
                            refine tkU 27 rfl ?_
                            (try simp only [Act.put, List.getElem_toArray, List.getElem_cons_succ, List.getElem_cons_zero, List.setIfInBounds_toArray, List.set_cons_zero, List.set_cons_succ])
                            refine tkU 28 rfl ?_
                            refine tkU 29 rfl ?_
                            refine tkU 30 rfl ?_
                            (try simp only [Act.put, List.getElem_toArray, List.getElem_cons_succ, List.getElem_cons_zero, List.setIfInBounds_toArray, List.set_cons_zero, List.set_cons_succ])
                            refine tkT 31 (.bool false) rfl ?_
                            (try simp only [Act.put, List.getElem_toArray, List.getElem_cons_succ, List.getElem_cons_zero, List.setIfInBounds_toArray, List.set_cons_zero, List.set_cons_succ])
                            refine wpAnyH_done (by kernel_rfl) ?_ _
                            go_wp2
                            exact ⟨⟨b + 1, by go_num, by omega, by with_reducible (repeat' first | assumption | exact Below.refl _ _ | refine Below.drew ?_ | refine bdrewN ?_ _ | refine Below.setCell ?_ (by first | exact Nat.le_refl _ | (simp; done) | (simp; omega) | omega) _ | refine Below.alloc ?_ (by first | exact Nat.le_refl _ | (simp; done) | (simp; omega) | omega) _)⟩, by simp [intOf]; omega⟩
                        · have d12 : decide ((a : Int) < 12) = false := decide_eq_false h12
                          go_wp2
                          refine wp_region_held_drew (S := (fun w' => w'.cell? ⟨g, a * 4, none⟩ = some (.int .i64 e.r) ∧ w'.cell? ⟨g, a * 4 + 1, none⟩ = some (.int .i64 e.c) ∧ w'.cell? ⟨g, a * 4 + 2, none⟩ = some (.int .i64 e.t) ∧ w'.cell? ⟨g, b * 4, none⟩ = some (.int .i64 f.r) ∧ w'.cell? ⟨g, b * 4 + 1, none⟩ = some (.int .i64 f.c) ∧ w'.cell? ⟨g, b * 4 + 3, none⟩ = some (.int .i64 f.v))) (by kernel_rfl) (by (try dsimp only); ((repeat' apply And.intro) <;> (first | (go_keep; done) | (go_simp; done)))) (fun hHeld => ?_)
                          refine tkT 0 (.int .i64 a) rfl ?_
                          (try simp only [Act.put, List.getElem_toArray, List.getElem_cons_succ, List.getElem_cons_zero, List.setIfInBounds_toArray, List.set_cons_zero, List.set_cons_succ])
                          refine tkT 1 (.bool false) rfl ?_
                          (try simp only [Act.put, List.getElem_toArray, List.getElem_cons_succ, List.getElem_cons_zero, List.setIfInBounds_toArray, List.set_cons_zero, List.set_cons_succ])
                          refine tkT 2 (.bool false) rfl ?_
                          (try simp only [Act.put, List.getElem_toArray, List.getElem_cons_succ, List.getElem_cons_zero, List.setIfInBounds_toArray, List.set_cons_zero, List.set_cons_succ])
                          refine tkU 3 rfl ?_
                          (try simp only [Act.put, List.getElem_toArray, List.getElem_cons_succ, List.getElem_cons_zero, List.setIfInBounds_toArray, List.set_cons_zero, List.set_cons_succ])
                          refine tkU 4 rfl ?_
                          (try simp only [Act.put, List.getElem_toArray, List.getElem_cons_succ, List.getElem_cons_zero, List.setIfInBounds_toArray, List.set_cons_zero, List.set_cons_succ])
                          refine tkT 5 (.bool false) rfl ?_
                          (try simp only [Act.put, List.getElem_toArray, List.getElem_cons_succ, List.getElem_cons_zero, List.setIfInBounds_toArray, List.set_cons_zero, List.set_cons_succ])
                          refine tkT 6 (.bool false) rfl ?_
                          (try simp only [Act.put, List.getElem_toArray, List.getElem_cons_succ, List.getElem_cons_zero, List.setIfInBounds_toArray, List.set_cons_zero, List.set_cons_succ])
                          refine tkU 7 rfl ?_
                          (try simp only [Act.put, List.getElem_toArray, List.getElem_cons_succ, List.getElem_cons_zero, List.setIfInBounds_toArray, List.set_cons_zero, List.set_cons_succ])
                          refine tkU 8 rfl ?_
                          refine tkU 9 rfl ?_
                          refine tkU 10 rfl ?_
                          refine tkU 11 rfl ?_
                          (try simp only [Act.put, List.getElem_toArray, List.getElem_cons_succ, List.getElem_cons_zero, List.setIfInBounds_toArray, List.set_cons_zero, List.set_cons_succ])
                          refine tkU 12 rfl ?_
                          refine tkU 13 rfl ?_
                          refine tkU 14 rfl ?_
                          refine tkU 15 rfl ?_
                          (try simp only [Act.put, List.getElem_toArray, List.getElem_cons_succ, List.getElem_cons_zero, List.setIfInBounds_toArray, List.set_cons_zero, List.set_cons_succ])
                          refine tkU 16 rfl ?_
                          refine tkU 17 rfl ?_
                          refine tkU 18 rfl ?_
                          refine tkU 19 rfl ?_
                          (try simp only [Act.put, List.getElem_toArray, List.getElem_cons_succ, List.getElem_cons_zero, List.setIfInBounds_toArray, List.set_cons_zero, List.set_cons_succ])
                          refine tkU 20 rfl ?_
                          refine tkU 21 rfl ?_
                          refine tkU 22 rfl ?_
                          refine tkU 23 rfl ?_
                          (try simp only [Act.put, List.getElem_toArray, List.getElem_cons_succ, List.getElem_cons_zero, List.setIfInBounds_toArray, List.set_cons_zero, List.set_cons_succ])
                          refine tkU 24 rfl ?_
                          refine tkU 25 rfl ?_
                          refine tkU 26 rfl ?_
                          refine tkU 27 rfl ?_
                          (try simp only [Act.put, List.getElem_toArray, List.getElem_cons_succ, List.getElem_cons_zero, List.setIfInBounds_toArray, List.set_cons_zero, List.set_cons_succ])
                          refine tkU 28 rfl ?_
                          refine tkU 29 rfl ?_
                          refine tkU 30 rfl ?_
                          (try simp only [Act.put, List.getElem_toArray, List.getElem_cons_succ, List.getElem_cons_zero, List.setIfInBounds_toArray, List.set_cons_zero, List.set_cons_succ])
                          refine tkT 31 (.bool false) rfl ?_
                          (try simp only [Act.put, List.getElem_toArray, List.getElem_cons_succ, List.getElem_cons_zero, List.setIfInBounds_toArray, List.set_cons_zero, List.set_cons_succ])
                          refine wpAnyH_done (by kernel_rfl) ?_ _
                          go_wp2
                          exact ⟨⟨b + 1, by go_num, by omega, by with_reducible (repeat' first | assumption | exact Below.refl _ _ | refine Below.drew ?_ | refine bdrewN ?_ _ | refine Below.setCell ?_ (by first | exact Nat.le_refl _ | (simp; done) | (simp; omega) | omega) _ | refine Below.alloc ?_ (by first | exact Nat.le_refl _ | (simp; done) | (simp; omega) | omega) _)⟩, by simp [intOf]; omega⟩
                      · have hbm' : ¬ ((b : Int) < m6) := by omega
                        go_wp2
                        exact ⟨⟨a + 1, by go_num, by omega, by with_reducible (repeat' first | assumption | exact Below.refl _ _ | refine Below.drew ?_ | refine bdrewN ?_ _ | refine Below.setCell ?_ (by first | exact Nat.le_refl _ | (simp; done) | (simp; omega) | omega) _ | refine Below.alloc ?_ (by first | exact Nat.le_refl _ | (simp; done) | (simp; omega) | omega) _)⟩, by simp [intOf]; omega⟩
                  · have ham' : ¬ ((a : Int) < m6) := by omega
                    go_wp2
                    exact ⟨⟨i + 1, (.slice q6 m6 cap6), l6, T6, V6, la6, tu6, S6, L6, rfl, by go_num, by omega, by first | omega | (simp; omega), (show Cz _ _ _ _ _ _ _ _ _ from HC5.out.keep (by with_reducible (repeat' first | assumption | exact Below.refl _ _ | refine Below.drew ?_ | refine bdrewN ?_ _ | refine Below.setCell ?_ (by first | exact Nat.le_refl _ | (simp; done) | (simp; omega) | omega) _ | refine Below.alloc ?_ (by first | exact Nat.le_refl _ | (simp; done) | (simp; omega) | omega) _))), (show RowG _ _ _ _ _ _ _ from HR5.out.keep (by with_reducible (repeat' first | assumption | exact Below.refl _ _ | refine Below.drew ?_ | refine bdrewN ?_ _ | refine Below.setCell ?_ (by first | exact Nat.le_refl _ | (simp; done) | (simp; omega) | omega) _ | refine Below.alloc ?_ (by first | exact Nat.le_refl _ | (simp; done) | (simp; omega) | omega) _))), (show Wn _ _ _ _ _ from HW5.out), hB5.trans ((show Below W5.heap.size W5 _ from by with_reducible (repeat' first | assumption | exact Below.refl _ _ | refine Below.drew ?_ | refine bdrewN ?_ _ | refine Below.setCell ?_ (by first | exact Nat.le_refl _ | (simp; done) | (simp; omega) | omega) _ | refine Below.alloc ?_ (by first | exact Nat.le_refl _ | (simp; done) | (simp; omega) | omega) _)).mono z5)⟩, by simp [intOf]; omega⟩
          · as_aux_lemma =>
              have k0 : (op.k == 0) = false := by simp [hk0]
              have k1 : (op.k == 1) = false := by simp [hk1]
              have k2 : (op.k == 2) = false := by simp [hk2]
              clear hq5
              go_wp2_with (first
                              | (go_at_call 7; refine (lat_any _ _ _ _ _ _ (HR.out.keep (by with_reducible (repeat' first | assumption | exact Below.refl _ _ | refine Below.drew ?_ | refine bdrewN ?_ _ | refine Below.setCell ?_ (by first | exact Nat.le_refl _ | (simp; done) | (simp; omega) | omega) _ | refine Below.alloc ?_ (by first | exact Nat.le_refl _ | (simp; done) | (simp; omega) | omega) _))) HLl.out).mono ?_; rintro e w1 ⟨p, rfl, _, hb⟩; have hB1 : Below w.heap.size w w1 := bup (by with_reducible (repeat' first | assumption | exact Below.refl _ _ | refine Below.drew ?_ | refine bdrewN ?_ _ | refine Below.setCell ?_ (by first | exact Nat.le_refl _ | (simp; done) | (simp; omega) | omega) _ | refine Below.alloc ?_ (by first | exact Nat.le_refl _ | (simp; done) | (simp; omega) | omega) _)) hb; have hR1 : Below wr.heap.size wr w1 := bup (by with_reducible (repeat' first | assumption | exact Below.refl _ _ | refine Below.drew ?_ | refine bdrewN ?_ _ | refine Below.setCell ?_ (by first | exact Nat.le_refl _ | (simp; done) | (simp; omega) | omega) _ | refine Below.alloc ?_ (by first | exact Nat.le_refl _ | (simp; done) | (simp; omega) | omega) _)) hb; have oX1 : Own w1 wr.heap.size #[.int .i64 op.k, .int .i64 op.r, .int .i64 op.c, .int .i64 op.r2, .int .i64 op.c2] := Own.keep (by with_reducible (repeat' first | assumption | refine Own.drew ?_ | refine Own.drewN ?_ _ | (refine Own.at ?_; first | rfl | (simp; done)) | refine Own.past ?_ _)) hb; have x10 : w1.cell? ⟨wr.heap.size, 0, none⟩ = some (.int .i64 op.k) := oX1.cell 0; have x11 : w1.cell? ⟨wr.heap.size, 1, none⟩ = some (.int .i64 op.r) := oX1.cell 1; have x12 : w1.cell? ⟨wr.heap.size, 2, none⟩ = some (.int .i64 op.c) := oX1.cell 2; have lX1 := oX1.lt; clear hb)
                              | (go_at_call 8; refine (HMy.out _).mono ?_; rintro e w2 ⟨rfl, hb⟩; have hB2 : Below w.heap.size w w2 := bup (by with_reducible (repeat' first | assumption | exact Below.refl _ _ | refine Below.drew ?_ | refine bdrewN ?_ _ | refine Below.setCell ?_ (by first | exact Nat.le_refl _ | (simp; done) | (simp; omega) | omega) _ | refine Below.alloc ?_ (by first | exact Nat.le_refl _ | (simp; done) | (simp; omega) | omega) _)) hb; have hR2 : Below wr.heap.size wr w2 := bup (by with_reducible (repeat' first | assumption | exact Below.refl _ _ | refine Below.drew ?_ | refine bdrewN ?_ _ | refine Below.setCell ?_ (by first | exact Nat.le_refl _ | (simp; done) | (simp; omega) | omega) _ | refine Below.alloc ?_ (by first | exact Nat.le_refl _ | (simp; done) | (simp; omega) | omega) _)) hb; have oX2 : Own w2 wr.heap.size #[.int .i64 op.k, .int .i64 op.r, .int .i64 op.c, .int .i64 op.r2, .int .i64 op.c2] := Own.keep (by with_reducible (repeat' first | assumption | refine Own.drew ?_ | refine Own.drewN ?_ _ | (refine Own.at ?_; first | rfl | (simp; done)) | refine Own.past ?_ _)) hb; have x20 : w2.cell? ⟨wr.heap.size, 0, none⟩ = some (.int .i64 op.k) := oX2.cell 0; have x21 : w2.cell? ⟨wr.heap.size, 1, none⟩ = some (.int .i64 op.r) := oX2.cell 1; have x22 : w2.cell? ⟨wr.heap.size, 2, none⟩ = some (.int .i64 op.c) := oX2.cell 2; have lX2 := oX2.lt; have HX2 : Hid (Nx w.heap.size w2 N most last turns S i L (.slice q0 m cap5) l5 wr.heap.size #[.int .i64 op.k, .int .i64 op.r, .int .i64 op.c, .int .i64 op.r2, .int .i64 op.c2]) := (show Nx _ _ _ _ _ _ _ _ _ _ _ _ _ from Nx.begin HC.out HR.out hR2 oX2 (Nat.le_refl _) (by omega)); clear hb))
              obtain ⟨W5, hW5⟩ : ∃ W5 : World, W5 = w2 := ⟨_, rfl⟩
              obtain ⟨q6, m6, cap6, hv6, l6, T6, V6, la6, tu6, S6, L6, hl6, HC5, HR5, HW5⟩ : ∃ (q6 : Option Addr) (m6 cap6 : Nat), Value.slice q0 m cap5 = .slice q6 m6 cap6 ∧ ∃ (l6 : List We) (T6 V6 : Int → Int → Int) (la6 tu6 : Int) (S6 : St) (L6 : List Cl), l6.length ≤ i + 1 ∧ Hid (Cz (Fv w.heap.size (.slice q6 m6 cap6)) W5 N most la6 tu6 S6 (i + 1) L6) ∧ Hid (RowW W5 w.heap.size (.slice q6 m6 cap6) l6) ∧ Hid (Wn S6 T6 V6 l6 ((i : Int) + 1)) := ⟨q0, m, cap5, rfl, l5, T, V, last, turns, S, (⟨op.r, op.c⟩ :: L), (by first | omega | (simp; omega)), (show Cz _ _ _ _ _ _ _ _ _ from by rw [hW5]; exact ((HX2.out.more ⟨op.r, op.c⟩)).czF), (show RowG _ _ _ _ _ _ _ from by rw [hW5]; exact ((HX2.out.more ⟨op.r, op.c⟩)).row), (show Wn _ _ _ _ _ from HW.out.more)⟩
              have hB5 : Below w.heap.size w W5 := (by rw [hW5]; exact hB2)
              rw [hv6, ← hW5]
              clear hW5 hv6
              clear HX2 HC HR HW HMy
              obtain ⟨hml, hmc, hmc2, hq5⟩ := row_q HR5.out
              have HQ5 : Hid _ := hq5
              have HL6 : Hid (m6 = l6.length) := hml
              have b5 : Below W5.heap.size W5 W5 := Below.refl _ _
              have z5 := hB5.size
              clear hq5 hml
              go_loopw [13] (fun u w' => ∃ a : Nat, u = .int .i64 a ∧ a ≤ m6 ∧ Below W5.heap.size W5 w') (fun u _ => m6 - (intOf u).toNat)
              case atStart => exact ⟨0, rfl, by omega, b5⟩
              case round =>
                clear b5
                obtain ⟨a, rfl, ha, hB6⟩ := hrel
                have z6 := hB6.size
                by_cases ham : a < m6
                · have ham' : (a : Int) < m6 := by omega
                  go_wp2
                  go_loopw [14] (fun u w' => ∃ b : Nat, u = .int .i64 b ∧ b ≤ m6 ∧ Below W5.heap.size W5 w') (fun u _ => m6 - (intOf u).toNat)
                  case atStart => exact ⟨0, rfl, by omega, by with_reducible (repeat' first | assumption | exact Below.refl _ _ | refine Below.drew ?_ | refine bdrewN ?_ _ | refine Below.setCell ?_ (by first | exact Nat.le_refl _ | (simp; done) | (simp; omega) | omega) _ | refine Below.alloc ?_ (by first | exact Nat.le_refl _ | (simp; done) | (simp; omega) | omega) _)⟩
                  case round =>
                    clear hB6 z6
                    obtain ⟨b, rfl, hb, hB7⟩ := hrel
                    have z7 := hB7.size
                    by_cases hbm : b < m6
                    · have hbm' : (b : Int) < m6 := by omega
                      obtain ⟨e, he⟩ : ∃ e, l6[a]? = some e := ⟨_, List.getElem?_eq_getElem (by have := HL6.out; omega)⟩
                      obtain ⟨f, hf⟩ : ∃ f, l6[b]? = some f := ⟨_, List.getElem?_eq_getElem (by have := HL6.out; omega)⟩
                      obtain ⟨g, rfl, hg, hcl⟩ := HQ5.out (by omega)
                      have e0 : wr.cell? ⟨g, a * 4, none⟩ = some (.int .i64 e.r) := (hB7.cell (p := ⟨g, a * 4, none⟩) hg).trans (hcl a e he 0 _ rfl)
                      have e1 : wr.cell? ⟨g, a * 4 + 1, none⟩ = some (.int .i64 e.c) := (hB7.cell (p := ⟨g, a * 4 + 1, none⟩) hg).trans (hcl a e he 1 _ rfl)
                      have e2 : wr.cell? ⟨g, a * 4 + 2, none⟩ = some (.int .i64 e.t) := (hB7.cell (p := ⟨g, a * 4 + 2, none⟩) hg).trans (hcl a e he 2 _ rfl)
                      have f0 : wr.cell? ⟨g, b * 4, none⟩ = some (.int .i64 f.r) := (hB7.cell (p := ⟨g, b * 4, none⟩) hg).trans (hcl b f hf 0 _ rfl)
                      have f1 : wr.cell? ⟨g, b * 4 + 1, none⟩ = some (.int .i64 f.c) := (hB7.cell (p := ⟨g, b * 4 + 1, none⟩) hg).trans (hcl b f hf 1 _ rfl)
                      have f3 : wr.cell? ⟨g, b * 4 + 3, none⟩ = some (.int .i64 f.v) := (hB7.cell (p := ⟨g, b * 4 + 3, none⟩) hg).trans (hcl b f hf 3 _ rfl)
                      have lg : g < wr.heap.size := by omega
                      have HDC : Hid (∀ W, Below W5.heap.size W5 W → Calls Try.prog 12 #[.pointer (some ⟨N, 0, none⟩), .agg #[.int .i64 e.r, .int .i64 e.c], .agg #[.int .i64 f.r, .int .i64 f.c]] W fun e' w' => e' = .returned (.bool (decide (f.v < e.t))) ∧ Below W.heap.size W w') := (show _ from fun W h1 => (cz_newer (HC5.out.keep h1) e.r e.c f.r f.c (HW5.out.i64 e (List.mem_of_getElem? he)).1 (HW5.out.i64 e (List.mem_of_getElem? he)).2 (HW5.out.i64 f (List.mem_of_getElem? hf)).1 (HW5.out.i64 f (List.mem_of_getElem? hf)).2).mono (fun e' w' q => by rw [dec_newer HW5.out he hf] at q; exact q))
                      clear hcl he hf
                      by_cases h12 : (a : Int) < 12
                      · have d12 : decide ((a : Int) < 12) = true := decide_eq_true h12
                        by_cases h13 : (b : Int) < 12
                        · have d13 : decide ((b : Int) < 12) = true := decide_eq_true h13
                          go_wp2
                          refine wp_region_held_drew (S := (fun w' => w'.cell? ⟨g, a * 4, none⟩ = some (.int .i64 e.r) ∧ w'.cell? ⟨g, a * 4 + 1, none⟩ = some (.int .i64 e.c) ∧ w'.cell? ⟨g, a * 4 + 2, none⟩ = some (.int .i64 e.t) ∧ w'.cell? ⟨g, b * 4, none⟩ = some (.int .i64 f.r) ∧ w'.cell? ⟨g, b * 4 + 1, none⟩ = some (.int .i64 f.c) ∧ w'.cell? ⟨g, b * 4 + 3, none⟩ = some (.int .i64 f.v))) (by kernel_rfl) (by (try dsimp only); ((repeat' apply And.intro) <;> (first | (go_keep; done) | (go_simp; done)))) (fun hHeld => ?_)
                          refine tkT 0 (.int .i64 a) rfl ?_
                          (try simp only [Act.put, List.getElem_toArray, List.getElem_cons_succ, List.getElem_cons_zero, List.setIfInBounds_toArray, List.set_cons_zero, List.set_cons_succ])
                          refine tkT 1 (.bool true) rfl ?_
                          (try simp only [Act.put, List.getElem_toArray, List.getElem_cons_succ, List.getElem_cons_zero, List.setIfInBounds_toArray, List.set_cons_zero, List.set_cons_succ])
                          refine tkT 2 (.bool true) rfl ?_
                          (try simp only [Act.put, List.getElem_toArray, List.getElem_cons_succ, List.getElem_cons_zero, List.setIfInBounds_toArray, List.set_cons_zero, List.set_cons_succ])
                          refine tkT 3 (.int .i64 b) rfl ?_
                          (try simp only [Act.put, List.getElem_toArray, List.getElem_cons_succ, List.getElem_cons_zero, List.setIfInBounds_toArray, List.set_cons_zero, List.set_cons_succ])
                          refine tkT 4 (.bool true) rfl ?_
                          (try simp only [Act.put, List.getElem_toArray, List.getElem_cons_succ, List.getElem_cons_zero, List.setIfInBounds_toArray, List.set_cons_zero, List.set_cons_succ])
                          refine tkT 5 (.bool true) rfl ?_
                          (try simp only [Act.put, List.getElem_toArray, List.getElem_cons_succ, List.getElem_cons_zero, List.setIfInBounds_toArray, List.set_cons_zero, List.set_cons_succ])
                          refine tkT 6 (.bool true) rfl ?_
                          (try simp only [Act.put, List.getElem_toArray, List.getElem_cons_succ, List.getElem_cons_zero, List.setIfInBounds_toArray, List.set_cons_zero, List.set_cons_succ])
                          refine tkT 7 (.pointer (some ⟨N, 0, none⟩)) rfl ?_
                          (try simp only [Act.put, List.getElem_toArray, List.getElem_cons_succ, List.getElem_cons_zero, List.setIfInBounds_toArray, List.set_cons_zero, List.set_cons_succ])
                          refine tkT 8 (.slice (some ⟨g, 0, none⟩) m6 cap6) rfl ?_
                          (try simp only [Act.put, List.getElem_toArray, List.getElem_cons_succ, List.getElem_cons_zero, List.setIfInBounds_toArray, List.set_cons_zero, List.set_cons_succ])
                          refine tkT 9 (.int .i64 a) rfl ?_
                          (try simp only [Act.put, List.getElem_toArray, List.getElem_cons_succ, List.getElem_cons_zero, List.setIfInBounds_toArray, List.set_cons_zero, List.set_cons_succ])
                          refine tkT 10 (.pointer (some ⟨g, a * 4, none⟩)) rfl ?_
                          (try simp only [Act.put, List.getElem_toArray, List.getElem_cons_succ, List.getElem_cons_zero, List.setIfInBounds_toArray, List.set_cons_zero, List.set_cons_succ])
                          refine tkT 11 (.pointer (some ⟨g, a * 4, none⟩)) rfl ?_
                          (try simp only [Act.put, List.getElem_toArray, List.getElem_cons_succ, List.getElem_cons_zero, List.setIfInBounds_toArray, List.set_cons_zero, List.set_cons_succ])
                          refine tkT 12 (.agg #[.int .i64 e.r, .int .i64 e.c]) rfl ?_
                          (try simp only [Act.put, List.getElem_toArray, List.getElem_cons_succ, List.getElem_cons_zero, List.setIfInBounds_toArray, List.set_cons_zero, List.set_cons_succ])
                          refine tkT 13 (.slice (some ⟨g, 0, none⟩) m6 cap6) rfl ?_
                          (try simp only [Act.put, List.getElem_toArray, List.getElem_cons_succ, List.getElem_cons_zero, List.setIfInBounds_toArray, List.set_cons_zero, List.set_cons_succ])
                          refine tkT 14 (.int .i64 b) rfl ?_
                          (try simp only [Act.put, List.getElem_toArray, List.getElem_cons_succ, List.getElem_cons_zero, List.setIfInBounds_toArray, List.set_cons_zero, List.set_cons_succ])
                          refine tkT 15 (.pointer (some ⟨g, b * 4, none⟩)) rfl ?_
                          (try simp only [Act.put, List.getElem_toArray, List.getElem_cons_succ, List.getElem_cons_zero, List.setIfInBounds_toArray, List.set_cons_zero, List.set_cons_succ])
                          refine tkT 16 (.pointer (some ⟨g, b * 4, none⟩)) rfl ?_
                          (try simp only [Act.put, List.getElem_toArray, List.getElem_cons_succ, List.getElem_cons_zero, List.setIfInBounds_toArray, List.set_cons_zero, List.set_cons_succ])
                          refine tkT 17 (.agg #[.int .i64 f.r, .int .i64 f.c]) rfl ?_
                          (try simp only [Act.put, List.getElem_toArray, List.getElem_cons_succ, List.getElem_cons_zero, List.setIfInBounds_toArray, List.set_cons_zero, List.set_cons_succ])
                          refine tkT 19 (.slice (some ⟨g, 0, none⟩) m6 cap6) rfl ?_
                          (try simp only [Act.put, List.getElem_toArray, List.getElem_cons_succ, List.getElem_cons_zero, List.setIfInBounds_toArray, List.set_cons_zero, List.set_cons_succ])
                          refine tkT 20 (.int .i64 a) rfl ?_
                          (try simp only [Act.put, List.getElem_toArray, List.getElem_cons_succ, List.getElem_cons_zero, List.setIfInBounds_toArray, List.set_cons_zero, List.set_cons_succ])
                          refine tkT 21 (.pointer (some ⟨g, a * 4, none⟩)) rfl ?_
                          (try simp only [Act.put, List.getElem_toArray, List.getElem_cons_succ, List.getElem_cons_zero, List.setIfInBounds_toArray, List.set_cons_zero, List.set_cons_succ])
                          refine tkT 22 (.pointer (some ⟨g, a * 4 + 2, none⟩)) rfl ?_
                          (try simp only [Act.put, List.getElem_toArray, List.getElem_cons_succ, List.getElem_cons_zero, List.setIfInBounds_toArray, List.set_cons_zero, List.set_cons_succ])
                          refine tkT 23 (.int .i64 e.t) rfl ?_
                          (try simp only [Act.put, List.getElem_toArray, List.getElem_cons_succ, List.getElem_cons_zero, List.setIfInBounds_toArray, List.set_cons_zero, List.set_cons_succ])
                          refine tkT 24 (.slice (some ⟨g, 0, none⟩) m6 cap6) rfl ?_
                          (try simp only [Act.put, List.getElem_toArray, List.getElem_cons_succ, List.getElem_cons_zero, List.setIfInBounds_toArray, List.set_cons_zero, List.set_cons_succ])
                          refine tkT 25 (.int .i64 b) rfl ?_
                          (try simp only [Act.put, List.getElem_toArray, List.getElem_cons_succ, List.getElem_cons_zero, List.setIfInBounds_toArray, List.set_cons_zero, List.set_cons_succ])
                          refine tkT 26 (.pointer (some ⟨g, b * 4, none⟩)) rfl ?_
                          (try simp only [Act.put, List.getElem_toArray, List.getElem_cons_succ, List.getElem_cons_zero, List.setIfInBounds_toArray, List.set_cons_zero, List.set_cons_succ])
                          refine tkT 27 (.pointer (some ⟨g, b * 4 + 3, none⟩)) rfl ?_
                          (try simp only [Act.put, List.getElem_toArray, List.getElem_cons_succ, List.getElem_cons_zero, List.setIfInBounds_toArray, List.set_cons_zero, List.set_cons_succ])
                          refine tkT 28 (.int .i64 f.v) rfl ?_
                          (try simp only [Act.put, List.getElem_toArray, List.getElem_cons_succ, List.getElem_cons_zero, List.setIfInBounds_toArray, List.set_cons_zero, List.set_cons_succ])
                          refine tkT 29 (.bool (decide (f.v < e.t))) rfl ?_
                          (try simp only [Act.put, List.getElem_toArray, List.getElem_cons_succ, List.getElem_cons_zero, List.setIfInBounds_toArray, List.set_cons_zero, List.set_cons_succ])
                          refine wpAnyH_ready (rs := [18]) (by kernel_rfl) (by simp) ?_
                          refine AllReadyH.cons rfl (fun K hK => ?_) ?_
                          · go_simp
                            (go_at_call 12; refine (HDC.out _ (by with_reducible (repeat' first | assumption | exact Below.refl _ _ | refine Below.drew ?_ | refine bdrewN ?_ _ | refine Below.setCell ?_ (by first | exact Nat.le_refl _ | (simp; done) | (simp; omega) | omega) _ | refine Below.alloc ?_ (by first | exact Nat.le_refl _ | (simp; done) | (simp; omega) | omega) _))).mono ?_; rintro e' w8 ⟨rfl, hb8⟩; have hB8 : Below W5.heap.size W5 w8 := bup (by with_reducible (repeat' first | assumption | exact Below.refl _ _ | refine Below.drew ?_ | refine bdrewN ?_ _ | refine Below.setCell ?_ (by first | exact Nat.le_refl _ | (simp; done) | (simp; omega) | omega) _ | refine Below.alloc ?_ (by first | exact Nat.le_refl _ | (simp; done) | (simp; omega) | omega) _)) hb8; have hR8 : Below wr.heap.size wr w8 := bup (by with_reducible (repeat' first | assumption | exact Below.refl _ _ | refine Below.drew ?_ | refine bdrewN ?_ _ | refine Below.setCell ?_ (by first | exact Nat.le_refl _ | (simp; done) | (simp; omega) | omega) _ | refine Below.alloc ?_ (by first | exact Nat.le_refl _ | (simp; done) | (simp; omega) | omega) _)) hb8; have g0 : w8.cell? ⟨g, a * 4, none⟩ = some (.int .i64 e.r) := (hR8.cell (p := ⟨g, a * 4, none⟩) lg).trans e0; have g1 : w8.cell? ⟨g, a * 4 + 1, none⟩ = some (.int .i64 e.c) := (hR8.cell (p := ⟨g, a * 4 + 1, none⟩) lg).trans e1; have g2 : w8.cell? ⟨g, a * 4 + 2, none⟩ = some (.int .i64 e.t) := (hR8.cell (p := ⟨g, a * 4 + 2, none⟩) lg).trans e2; have k0 : w8.cell? ⟨g, b * 4, none⟩ = some (.int .i64 f.r) := (hR8.cell (p := ⟨g, b * 4, none⟩) lg).trans f0; have k1 : w8.cell? ⟨g, b * 4 + 1, none⟩ = some (.int .i64 f.c) := (hR8.cell (p := ⟨g, b * 4 + 1, none⟩) lg).trans f1; have k3 : w8.cell? ⟨g, b * 4 + 3, none⟩ = some (.int .i64 f.v) := (hR8.cell (p := ⟨g, b * 4 + 3, none⟩) lg).trans f3; have lg8 : g < w8.heap.size := (by have := hR8.size; omega); clear hb8)
                            go_wp2_with fail
                            refine hK.out _ _ (by (try dsimp only); first | (with_reducible assumption) | ((repeat' apply And.intro) <;> (first | (go_keep; done) | (go_simp; done)))) (fun hHeld => ?_)
                            clear hK K
                            (try simp only [Act.put, List.getElem_toArray, List.getElem_cons_succ, List.getElem_cons_zero, List.setIfInBounds_toArray, List.set_cons_zero, List.set_cons_succ])
                            refine tkT 30 (.bool false) rfl ?_
                            (try simp only [Act.put, List.getElem_toArray, List.getElem_cons_succ, List.getElem_cons_zero, List.setIfInBounds_toArray, List.set_cons_zero, List.set_cons_succ])
                            refine tkT 31 (.bool false) rfl ?_
                            (try simp only [Act.put, List.getElem_toArray, List.getElem_cons_succ, List.getElem_cons_zero, List.setIfInBounds_toArray, List.set_cons_zero, List.set_cons_succ])
                            refine wpAnyH_done (by kernel_rfl) ?_ _
                            go_wp2
                            exact ⟨⟨b + 1, by go_num, by omega, by with_reducible (repeat' first | assumption | exact Below.refl _ _ | refine Below.drew ?_ | refine bdrewN ?_ _ | refine Below.setCell ?_ (by first | exact Nat.le_refl _ | (simp; done) | (simp; omega) | omega) _ | refine Below.alloc ?_ (by first | exact Nat.le_refl _ | (simp; done) | (simp; omega) | omega) _)⟩, by simp [intOf]; omega⟩
                          exact AllReadyH.nil
                        · have d13 : decide ((b : Int) < 12) = false := decide_eq_false h13
                          go_wp2
                          refine wp_region_held_drew (S := (fun w' => w'.cell? ⟨g, a * 4, none⟩ = some (.int .i64 e.r) ∧ w'.cell? ⟨g, a * 4 + 1, none⟩ = some (.int .i64 e.c) ∧ w'.cell? ⟨g, a * 4 + 2, none⟩ = some (.int .i64 e.t) ∧ w'.cell? ⟨g, b * 4, none⟩ = some (.int .i64 f.r) ∧ w'.cell? ⟨g, b * 4 + 1, none⟩ = some (.int .i64 f.c) ∧ w'.cell? ⟨g, b * 4 + 3, none⟩ = some (.int .i64 f.v))) (by kernel_rfl) (by (try dsimp only); ((repeat' apply And.intro) <;> (first | (go_keep; done) | (go_simp; done)))) (fun hHeld => ?_)
                          refine tkT 0 (.int .i64 a) rfl ?_
                          (try simp only [Act.put, List.getElem_toArray, List.getElem_cons_succ, List.getElem_cons_zero, List.setIfInBounds_toArray, List.set_cons_zero, List.set_cons_succ])
                          refine tkT 1 (.bool true) rfl ?_
                          (try simp only [Act.put, List.getElem_toArray, List.getElem_cons_succ, List.getElem_cons_zero, List.setIfInBounds_toArray, List.set_cons_zero, List.set_cons_succ])
                          refine tkT 2 (.bool true) rfl ?_
                          (try simp only [Act.put, List.getElem_toArray, List.getElem_cons_succ, List.getElem_cons_zero, List.setIfInBounds_toArray, List.set_cons_zero, List.set_cons_succ])
                          refine tkT 3 (.int .i64 b) rfl ?_
                          (try simp only [Act.put, List.getElem_toArray, List.getElem_cons_succ, List.getElem_cons_zero, List.setIfInBounds_toArray, List.set_cons_zero, List.set_cons_succ])
                          refine tkT 4 (.bool false) rfl ?_
                          (try simp only [Act.put, List.getElem_toArray, List.getElem_cons_succ, List.getElem_cons_zero, List.setIfInBounds_toArray, List.set_cons_zero, List.set_cons_succ])
                          refine tkT 5 (.bool false) rfl ?_
                          (try simp only [Act.put, List.getElem_toArray, List.getElem_cons_succ, List.getElem_cons_zero, List.setIfInBounds_toArray, List.set_cons_zero, List.set_cons_succ])
                          refine tkT 6 (.bool false) rfl ?_
                          (try simp only [Act.put, List.getElem_toArray, List.getElem_cons_succ, List.getElem_cons_zero, List.setIfInBounds_toArray, List.set_cons_zero, List.set_cons_succ])
                          refine tkU 7 rfl ?_
                          (try simp only [Act.put, List.getElem_toArray, List.getElem_cons_succ, List.getElem_cons_zero, List.setIfInBounds_toArray, List.set_cons_zero, List.set_cons_succ])
                          refine tkU 8 rfl ?_
                          refine tkU 9 rfl ?_
                          refine tkU 10 rfl ?_
                          refine tkU 11 rfl ?_
                          (try simp only [Act.put, List.getElem_toArray, List.getElem_cons_succ, List.getElem_cons_zero, List.setIfInBounds_toArray, List.set_cons_zero, List.set_cons_succ])
                          refine tkU 12 rfl ?_
                          refine tkU 13 rfl ?_
                          refine tkU 14 rfl ?_
                          refine tkU 15 rfl ?_
                          (try simp only [Act.put, List.getElem_toArray, List.getElem_cons_succ, List.getElem_cons_zero, List.setIfInBounds_toArray, List.set_cons_zero, List.set_cons_succ])
                          refine tkU 16 rfl ?_
                          refine tkU 17 rfl ?_
                          refine tkU 18 rfl ?_
                          refine tkU 19 rfl ?_
                          (try simp only [Act.put, List.getElem_toArray, List.getElem_cons_succ, List.getElem_cons_zero, List.setIfInBounds_toArray, List.set_cons_zero, List.set_cons_succ])
                          refine tkU 20 rfl ?_
                          refine tkU 21 rfl ?_
                          refine tkU 22 rfl ?_
                          refine tkU 23 rfl ?_
                          (try simp only [Act.put, List.getElem_toArray, List.getElem_cons_succ, List.getElem_cons_zero, List.setIfInBounds_toArray, List.set_cons_zero, List.set_cons_succ])
                          refine tkU 24 rfl ?_
                          refine tkU 25 rfl ?_
                          refine tkU 26 rfl ?_
                          refine tkU 27 rfl ?_
                          (try simp only [Act.put, List.getElem_toArray, List.getElem_cons_succ, List.getElem_cons_zero, List.setIfInBounds_toArray, List.set_cons_zero, List.set_cons_succ])
                          refine tkU 28 rfl ?_
                          refine tkU 29 rfl ?_
                          refine tkU 30 rfl ?_
                          (try simp only [Act.put, List.getElem_toArray, List.getElem_cons_succ, List.getElem_cons_zero, List.setIfInBounds_toArray, List.set_cons_zero, List.set_cons_succ])
                          refine tkT 31 (.bool false) rfl ?_
                          (try simp only [Act.put, List.getElem_toArray, List.getElem_cons_succ, List.getElem_cons_zero, List.setIfInBounds_toArray, List.set_cons_zero, List.set_cons_succ])
                          refine wpAnyH_done (by kernel_rfl) ?_ _
                          go_wp2
                          exact ⟨⟨b + 1, by go_num, by omega, by with_reducible (repeat' first | assumption | exact Below.refl _ _ | refine Below.drew ?_ | refine bdrewN ?_ _ | refine Below.setCell ?_ (by first | exact Nat.le_refl _ | (simp; done) | (simp; omega) | omega) _ | refine Below.alloc ?_ (by first | exact Nat.le_refl _ | (simp; done) | (simp; omega) | omega) _)⟩, by simp [intOf]; omega⟩
                      · have d12 : decide ((a : Int) < 12) = false := decide_eq_false h12
                        go_wp2
                        refine wp_region_held_drew (S := (fun w' => w'.cell? ⟨g, a * 4, none⟩ = some (.int .i64 e.r) ∧ w'.cell? ⟨g, a * 4 + 1, none⟩ = some (.int .i64 e.c) ∧ w'.cell? ⟨g, a * 4 + 2, none⟩ = some (.int .i64 e.t) ∧ w'.cell? ⟨g, b * 4, none⟩ = some (.int .i64 f.r) ∧ w'.cell? ⟨g, b * 4 + 1, none⟩ = some (.int .i64 f.c) ∧ w'.cell? ⟨g, b * 4 + 3, none⟩ = some (.int .i64 f.v))) (by kernel_rfl) (by (try dsimp only); ((repeat' apply And.intro) <;> (first | (go_keep; done) | (go_simp; done)))) (fun hHeld => ?_)
                        refine tkT 0 (.int .i64 a) rfl ?_
                        (try simp only [Act.put, List.getElem_toArray, List.getElem_cons_succ, List.getElem_cons_zero, List.setIfInBounds_toArray, List.set_cons_zero, List.set_cons_succ])
                        refine tkT 1 (.bool false) rfl ?_
                        (try simp only [Act.put, List.getElem_toArray, List.getElem_cons_succ, List.getElem_cons_zero, List.setIfInBounds_toArray, List.set_cons_zero, List.set_cons_succ])
                        refine tkT 2 (.bool false) rfl ?_
                        (try simp only [Act.put, List.getElem_toArray, List.getElem_cons_succ, List.getElem_cons_zero, List.setIfInBounds_toArray, List.set_cons_zero, List.set_cons_succ])
                        refine tkU 3 rfl ?_
                        (try simp only [Act.put, List.getElem_toArray, List.getElem_cons_succ, List.getElem_cons_zero, List.setIfInBounds_toArray, List.set_cons_zero, List.set_cons_succ])
                        refine tkU 4 rfl ?_
                        (try simp only [Act.put, List.getElem_toArray, List.getElem_cons_succ, List.getElem_cons_zero, List.setIfInBounds_toArray, List.set_cons_zero, List.set_cons_succ])
                        refine tkT 5 (.bool false) rfl ?_
                        (try simp only [Act.put, List.getElem_toArray, List.getElem_cons_succ, List.getElem_cons_zero, List.setIfInBounds_toArray, List.set_cons_zero, List.set_cons_succ])
                        refine tkT 6 (.bool false) rfl ?_
                        (try simp only [Act.put, List.getElem_toArray, List.getElem_cons_succ, List.getElem_cons_zero, List.setIfInBounds_toArray, List.set_cons_zero, List.set_cons_succ])
                        refine tkU 7 rfl ?_
                        (try simp only [Act.put, List.getElem_toArray, List.getElem_cons_succ, List.getElem_cons_zero, List.setIfInBounds_toArray, List.set_cons_zero, List.set_cons_succ])
                        refine tkU 8 rfl ?_
                        refine tkU 9 rfl ?_
                        refine tkU 10 rfl ?_
                        refine tkU 11 rfl ?_
                        (try simp only [Act.put, List.getElem_toArray, List.getElem_cons_succ, List.getElem_cons_zero, List.setIfInBounds_toArray, List.set_cons_zero, List.set_cons_succ])
                        refine tkU 12 rfl ?_
                        refine tkU 13 rfl ?_
                        refine tkU 14 rfl ?_
                        refine tkU 15 rfl ?_
                        (try simp only [Act.put, List.getElem_toArray, List.getElem_cons_succ, List.getElem_cons_zero, List.setIfInBounds_toArray, List.set_cons_zero, List.set_cons_succ])
                        refine tkU 16 rfl ?_
                        refine tkU 17 rfl ?_
                        refine tkU 18 rfl ?_
                        refine tkU 19 rfl ?_
                        (try simp only [Act.put, List.getElem_toArray, List.getElem_cons_succ, List.getElem_cons_zero, List.setIfInBounds_toArray, List.set_cons_zero, List.set_cons_succ])
                        refine tkU 20 rfl ?_
                        refine tkU 21 rfl ?_
                        refine tkU 22 rfl ?_
                        refine tkU 23 rfl ?_
                        (try simp only [Act.put, List.getElem_toArray, List.getElem_cons_succ, List.getElem_cons_zero, List.setIfInBounds_toArray, List.set_cons_zero, List.set_cons_succ])
                        refine tkU 24 rfl ?_
                        refine tkU 25 rfl ?_
                        refine tkU 26 rfl ?_
                        refine tkU 27 rfl ?_
                        (try simp only [Act.put, List.getElem_toArray, List.getElem_cons_succ, List.getElem_cons_zero, List.setIfInBounds_toArray, List.set_cons_zero, List.set_cons_succ])
                        refine tkU 28 rfl ?_
                        refine tkU 29 rfl ?_
                        refine tkU 30 rfl ?_
                        (try simp only [Act.put, List.getElem_toArray, List.getElem_cons_succ, List.getElem_cons_zero, List.setIfInBounds_toArray, List.set_cons_zero, List.set_cons_succ])
                        refine tkT 31 (.bool false) rfl ?_
                        (try simp only [Act.put, List.getElem_toArray, List.getElem_cons_succ, List.getElem_cons_zero, List.setIfInBounds_toArray, List.set_cons_zero, List.set_cons_succ])
                        refine wpAnyH_done (by kernel_rfl) ?_ _
                        go_wp2
                        exact ⟨⟨b + 1, by go_num, by omega, by with_reducible (repeat' first | assumption | exact Below.refl _ _ | refine Below.drew ?_ | refine bdrewN ?_ _ | refine Below.setCell ?_ (by first | exact Nat.le_refl _ | (simp; done) | (simp; omega) | omega) _ | refine Below.alloc ?_ (by first | exact Nat.le_refl _ | (simp; done) | (simp; omega) | omega) _)⟩, by simp [intOf]; omega⟩
                    · have hbm' : ¬ ((b : Int) < m6) := by omega
                      go_wp2
                      exact ⟨⟨a + 1, by go_num, by omega, by with_reducible (repeat' first | assumption | exact Below.refl _ _ | refine Below.drew ?_ | refine bdrewN ?_ _ | refine Below.setCell ?_ (by first | exact Nat.le_refl _ | (simp; done) | (simp; omega) | omega) _ | refine Below.alloc ?_ (by first | exact Nat.le_refl _ | (simp; done) | (simp; omega) | omega) _)⟩, by simp [intOf]; omega⟩
                · have ham' : ¬ ((a : Int) < m6) := by omega
                  go_wp2
                  exact ⟨⟨i + 1, (.slice q6 m6 cap6), l6, T6, V6, la6, tu6, S6, L6, rfl, by go_num, by omega, by first | omega | (simp; omega), (show Cz _ _ _ _ _ _ _ _ _ from HC5.out.keep (by with_reducible (repeat' first | assumption | exact Below.refl _ _ | refine Below.drew ?_ | refine bdrewN ?_ _ | refine Below.setCell ?_ (by first | exact Nat.le_refl _ | (simp; done) | (simp; omega) | omega) _ | refine Below.alloc ?_ (by first | exact Nat.le_refl _ | (simp; done) | (simp; omega) | omega) _))), (show RowG _ _ _ _ _ _ _ from HR5.out.keep (by with_reducible (repeat' first | assumption | exact Below.refl _ _ | refine Below.drew ?_ | refine bdrewN ?_ _ | refine Below.setCell ?_ (by first | exact Nat.le_refl _ | (simp; done) | (simp; omega) | omega) _ | refine Below.alloc ?_ (by first | exact Nat.le_refl _ | (simp; done) | (simp; omega) | omega) _))), (show Wn _ _ _ _ _ from HW5.out), hB5.trans ((show Below W5.heap.size W5 _ from by with_reducible (repeat' first | assumption | exact Below.refl _ _ | refine Below.drew ?_ | refine bdrewN ?_ _ | refine Below.setCell ?_ (by first | exact Nat.le_refl _ | (simp; done) | (simp; omega) | omega) _ | refine Below.alloc ?_ (by first | exact Nat.le_refl _ | (simp; done) | (simp; omega) | omega) _)).mono z5)⟩, by simp [intOf]; omega⟩
    · have hin' : ¬ ((i : Int) < n) := by omega
      go_wp2
      go_ret
      exact ⟨rfl, by with_reducible (repeat' first | assumption | exact Below.refl _ _ | refine Below.drew ?_ | refine bdrewN ?_ _ | refine Below.setCell ?_ (by first | exact Nat.le_refl _ | (simp; done) | (simp; omega) | omega) _ | refine Below.alloc ?_ (by first | exact Nat.le_refl _ | (simp; done) | (simp; omega) | omega) _)⟩
end Go.Proofs.Ytmajbophgdimlaa
