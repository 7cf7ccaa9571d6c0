/- BandsTurned's walk. -/
import Derived.Test.YtpblkidbaheboaaCU
namespace Go.Proofs.Ytpblkidbaheboaa
open Go.RowKit
set_option linter.all false
set_option maxRecDepth 100000 in
set_option maxHeartbeats 16000000 in
theorem turned_walk (w : World) (v : Value) (l : List Op7) (cx cy : Int) (hv : CV Op7.cells 7 w v l) (hz : l.length * 56 ≤ 140737488355327) : Calls Try.prog 4 #[v, .agg #[.int .i64 cx, .int .i64 cy]] w fun e w' => e = .returned (.bool true) ∧ Below w.heap.size w w' := by
  have mixed : Try.prog.follows .mixedOrders = true := by kernel_rfl
  obtain ⟨p, cap, rfl, hcap, hmx, hp0⟩ := hv
  have hEach := CV.each hp0
  obtain ⟨n, hn⟩ : ∃ n, n = l.length := ⟨_, rfl⟩
  rw [← hn] at hcap hmx hz hEach ⊢
  have HE : Hid (∀ i, i < n → ∃ (ab ao : Nat) (x : Op7), p = some ⟨ab, ao, none⟩ ∧ ab < w.heap.size ∧ l[i]? = some x ∧ ∀ j u, (Op7.cells x)[j]? = some u → w.cell? ⟨ab, ao + i * 7 + j, none⟩ = some u) := hEach
  have hlim : n ≤ 2513169434916 := by omega
  have Hlim : Hid (n ≤ 2513169434916) := hlim
  clear hEach hp0 hn hz hlim
  have HN1 : Hid (∀ W, Calls Try.prog 6 #[] W fun e w' => e = .returned (.pointer (some ⟨W.heap.size, 0, none⟩)) ∧ Bd w' W.heap.size (fun b => if b = W.heap.size then some (0, 0, 0) else none) [] 0 ∧ Below W.heap.size W w' ∧ w'.heap.size = W.heap.size + 1) := bnew_any
  have HK : Hid (∀ W, Calls Try.prog 7 #[] W fun e w' => e = .returned (.bool true) ∧ Below W.heap.size W w') := known_any
  go_enter Try.func4, Try.ntmps4
  go_wp2_with (first
    | (go_at_call 6; refine (HN1.out _).mono ?_; rintro e w1 ⟨rfl, hb, hB, z1⟩; have HB1 : Hid (Bd w1 (w.heap.size + 1) (fun b => if b = w.heap.size + 1 then some (0, 0, 0) else none) [] 0) := (show Bd _ _ _ _ _ from by simpa using hb); have zz1 : w1.heap.size = w.heap.size + 1 + 1 := (by simpa using z1); have hB1 : Below w.heap.size w w1 := bup (by with_reducible (repeat' first | assumption | exact Below.refl _ _ | refine Below.drew ?_ | refine bdrewN ?_ _ | refine Below.setCell ?_ (by first | exact Nat.le_refl _ | (simp; done) | (simp; omega) | omega) _ | refine Below.alloc ?_ (by first | exact Nat.le_refl _ | (simp; done) | (simp; omega) | omega) _)) hB; have oP1 : Own w1 w.heap.size #[.int .i64 cx, .int .i64 cy] := Own.keep (by with_reducible (repeat' first | assumption | refine Own.drew ?_ | refine Own.drewN ?_ _ | (refine Own.at ?_; first | rfl | (simp; done)) | refine Own.past ?_ _)) hB; clear hb hB z1)
    | (go_at_call 7; refine (HK.out _).mono ?_; rintro e w3 ⟨rfl, hB⟩; have HB3 : Hid (Bd w3 (w.heap.size + 1) (fun b => if b = w.heap.size + 1 then some (0, 0, 0) else none) [] 0) := (show Bd _ _ _ _ _ from HB1.out.keep hB); have hB3 := bup hB1 hB; have oP3 := oP1.keep hB; have zz3 : w.heap.size + 1 ≤ w3.heap.size := Nat.le_trans (by omega) hB.size; clear hB))
  have HT3 : Hid (One (w.heap.size + 1) w3 (w.heap.size + 1) [] 0) := (show One _ _ _ _ _ from ⟨_, HB3.out, fun b q => by by_cases e : b = w.heap.size + 1; omega; simp [e] at q⟩)
  clear HN1 HK HB1 hB1 oP1 zz1 HB3
  obtain ⟨NA, hNA⟩ : ∃ NA, NA = w.heap.size + 1 := ⟨_, rfl⟩
  have HT3 : Hid (One (w.heap.size + 1) w3 NA [] 0) := (by rw [hNA]; exact HT3)
  rw [← hNA]
  clear hNA
  have HA : Hid (∀ i P (x : Op7) W, One (w.heap.size + 1) W NA P i → w.heap.size + 1 ≤ W.heap.size → i < n → Calls Try.prog 8 #[.pointer (some ⟨NA, 0, none⟩), .agg #[.int .i64 x.t, .int .i64 x.l, .int .i64 x.b, .int .i64 x.q], .agg #[.int .i64 x.r, .int .i64 x.c]] W fun e w' => (∃ ok, e = .returned (.bool ok)) ∧ One (w.heap.size + 1) w' NA (addR P x.pr) (i + 1) ∧ Below (w.heap.size + 1) W w') := (show _ from fun i P x W h1 h2 h3 => (one_add _ W NA P i x.pr h1 h2 (by have := Hlim.out; omega)).mono (by
    rintro e w' ⟨rfl, q⟩
    exact ⟨⟨_, rfl⟩, q⟩))
  have HR : Hid (∀ i P (x : Op7) W, One (w.heap.size + 1) W NA P i → w.heap.size + 1 ≤ W.heap.size → i < n → Calls Try.prog 10 #[.pointer (some ⟨NA, 0, none⟩), .agg #[.int .i64 x.t, .int .i64 x.l, .int .i64 x.b, .int .i64 x.q], .agg #[.int .i64 x.r, .int .i64 x.c]] W fun e w' => (∃ ok, e = .returned (.bool ok)) ∧ One (w.heap.size + 1) w' NA (remR P x.pr) (i + 1) ∧ Below (w.heap.size + 1) W w') := (show _ from fun i P x W h1 h2 h3 => (one_rem _ W NA P i x.pr h1 h2 (by have := Hlim.out; omega)).mono (by
    rintro e w' ⟨rfl, q1, q2⟩
    exact ⟨⟨_, rfl⟩, q1.more (by omega), q2⟩))
  go_loopw [6] (fun u6 w' => ∃ (i : Nat) (P : List Pr), u6 = .int .i64 i ∧ i ≤ n ∧ Hid (One (w.heap.size + 1) w' NA P i) ∧ Own w' w.heap.size #[.int .i64 cx, .int .i64 cy] ∧ w.heap.size + 1 ≤ w'.heap.size ∧ Below w.heap.size w w') (fun u6 _ => n - (intOf u6).toNat)
  case atStart => exact ⟨0, [], rfl, by omega, HT3, oP3, zz3, hB3⟩
  case round =>
    clear HT3 oP3 zz3 hB3
    obtain ⟨i, P, rfl, hi, HT, oP, hzr, hB⟩ := hrel
    by_cases hlt : i < n
    · have hlt' : (i : Int) < n := by omega
      obtain ⟨ab, ao, x, rfl, hab, hx, hcl⟩ := HE.out i hlt
      have y1 : wr.cell? ⟨ab, ao + i * 7 + 1, none⟩ = some (.int .i64 x.t) := (hB.cell (p := ⟨ab, ao + i * 7 + 1, none⟩) hab).trans (hcl 1 _ rfl)
      have y2 : wr.cell? ⟨ab, ao + i * 7 + 2, none⟩ = some (.int .i64 x.l) := (hB.cell (p := ⟨ab, ao + i * 7 + 2, none⟩) hab).trans (hcl 2 _ rfl)
      have y3 : wr.cell? ⟨ab, ao + i * 7 + 3, none⟩ = some (.int .i64 x.b) := (hB.cell (p := ⟨ab, ao + i * 7 + 3, none⟩) hab).trans (hcl 3 _ rfl)
      have y4 : wr.cell? ⟨ab, ao + i * 7 + 4, none⟩ = some (.int .i64 x.q) := (hB.cell (p := ⟨ab, ao + i * 7 + 4, none⟩) hab).trans (hcl 4 _ rfl)
      have y5 : wr.cell? ⟨ab, ao + i * 7 + 5, none⟩ = some (.int .i64 x.r) := (hB.cell (p := ⟨ab, ao + i * 7 + 5, none⟩) hab).trans (hcl 5 _ rfl)
      have y6 : wr.cell? ⟨ab, ao + i * 7 + 6, none⟩ = some (.int .i64 x.c) := (hB.cell (p := ⟨ab, ao + i * 7 + 6, none⟩) hab).trans (hcl 6 _ rfl)
      have HAx : Hid (∀ W, One (w.heap.size + 1) W NA P i → w.heap.size + 1 ≤ W.heap.size → Calls Try.prog 8 #[.pointer (some ⟨NA, 0, none⟩), .agg #[.int .i64 x.t, .int .i64 x.l, .int .i64 x.b, .int .i64 x.q], .agg #[.int .i64 x.r, .int .i64 x.c]] W fun e w' => (∃ ok, e = .returned (.bool ok)) ∧ One (w.heap.size + 1) w' NA (addR P x.pr) (i + 1) ∧ Below (w.heap.size + 1) W w') := (show _ from fun W h1 h2 => HA.out i P x W h1 h2 hlt)
      have HRx : Hid (∀ W, One (w.heap.size + 1) W NA P i → w.heap.size + 1 ≤ W.heap.size → Calls Try.prog 10 #[.pointer (some ⟨NA, 0, none⟩), .agg #[.int .i64 x.t, .int .i64 x.l, .int .i64 x.b, .int .i64 x.q], .agg #[.int .i64 x.r, .int .i64 x.c]] W fun e w' => (∃ ok, e = .returned (.bool ok)) ∧ One (w.heap.size + 1) w' NA (remR P x.pr) (i + 1) ∧ Below (w.heap.size + 1) W w') := (show _ from fun W h1 h2 => HR.out i P x W h1 h2 hlt)
      have hcl0 : w.cell? ⟨ab, ao + i * 7, none⟩ = some (.int .i64 x.kd) := hcl 0 _ rfl
      have hcl : Hid (∀ j u, (Op7.cells x)[j]? = some u → w.cell? ⟨ab, ao + i * 7 + j, none⟩ = some u) := hcl
      clear hx
      by_cases k0 : x.kd = 0
      · have y0 : wr.cell? ⟨ab, ao + i * 7, none⟩ = some (.int .i64 0) := (hB.cell (p := ⟨ab, ao + i * 7, none⟩) hab).trans (hcl0.trans (by rw [k0]))
        clear hcl0 k0
        go_wp2
        go_region_held3 (fun w' => w'.cell? ⟨ab, ao + i * 7 + 1, none⟩ = some (.int .i64 x.t) ∧ w'.cell? ⟨ab, ao + i * 7 + 2, none⟩ = some (.int .i64 x.l) ∧ w'.cell? ⟨ab, ao + i * 7 + 3, none⟩ = some (.int .i64 x.b) ∧ w'.cell? ⟨ab, ao + i * 7 + 4, none⟩ = some (.int .i64 x.q) ∧ w'.cell? ⟨ab, ao + i * 7 + 5, none⟩ = some (.int .i64 x.r) ∧ w'.cell? ⟨ab, ao + i * 7 + 6, none⟩ = some (.int .i64 x.c)) ((repeat' apply And.intro) <;> (first | (go_keep; done) | (go_simp; done))) ((go_at_call 8; refine (HAx.out _ (HT.out.keep (by with_reducible (repeat' first | assumption | exact Below.refl _ _ | refine Below.drew ?_ | refine bdrewN ?_ _ | refine Below.setCell ?_ (by first | exact Nat.le_refl _ | (simp; done) | (simp; omega) | omega) _ | refine Below.alloc ?_ (by first | exact Nat.le_refl _ | (simp; done) | (simp; omega) | omega) _))) (by simp; omega)).mono ?_; rintro e wa ⟨q1, q2⟩; obtain ⟨ok, rfl⟩ := q1; obtain ⟨q1, q2⟩ := q2; have HTa : Hid (One (w.heap.size + 1) wa NA (addR P x.pr) (i + 1)) := q1; have hBa : Below w.heap.size w wa := Below.trans (show Below w.heap.size w _ from by with_reducible (repeat' first | assumption | exact Below.refl _ _ | refine Below.drew ?_ | refine bdrewN ?_ _ | refine Below.setCell ?_ (by first | exact Nat.le_refl _ | (simp; done) | (simp; omega) | omega) _ | refine Below.alloc ?_ (by first | exact Nat.le_refl _ | (simp; done) | (simp; omega) | omega) _)) (q2.mono (by omega)); have oPa : Own wa w.heap.size #[.int .i64 cx, .int .i64 cy] := Own.low (by with_reducible (repeat' first | assumption | refine Own.drew ?_ | refine Own.drewN ?_ _ | (refine Own.at ?_; first | rfl | (simp; done)) | refine Own.past ?_ _)) q2 (by omega); have zra : w.heap.size + 1 ≤ wa.heap.size := Nat.le_trans (by first | exact hzr | (simp; omega)) q2.size; have ya1 : wa.cell? ⟨ab, ao + i * 7 + 1, none⟩ = some (.int .i64 x.t) := (hBa.cell (p := ⟨ab, ao + i * 7 + 1, none⟩) hab).trans (hcl.out 1 _ rfl); have ya2 : wa.cell? ⟨ab, ao + i * 7 + 2, none⟩ = some (.int .i64 x.l) := (hBa.cell (p := ⟨ab, ao + i * 7 + 2, none⟩) hab).trans (hcl.out 2 _ rfl); have ya3 : wa.cell? ⟨ab, ao + i * 7 + 3, none⟩ = some (.int .i64 x.b) := (hBa.cell (p := ⟨ab, ao + i * 7 + 3, none⟩) hab).trans (hcl.out 3 _ rfl); have ya4 : wa.cell? ⟨ab, ao + i * 7 + 4, none⟩ = some (.int .i64 x.q) := (hBa.cell (p := ⟨ab, ao + i * 7 + 4, none⟩) hab).trans (hcl.out 4 _ rfl); have ya5 : wa.cell? ⟨ab, ao + i * 7 + 5, none⟩ = some (.int .i64 x.r) := (hBa.cell (p := ⟨ab, ao + i * 7 + 5, none⟩) hab).trans (hcl.out 5 _ rfl); have ya6 : wa.cell? ⟨ab, ao + i * 7 + 6, none⟩ = some (.int .i64 x.c) := (hBa.cell (p := ⟨ab, ao + i * 7 + 6, none⟩) hab).trans (hcl.out 6 _ rfl); clear q1 q2))
        go_wp2
        exact ⟨⟨i + 1, _, by go_num, by omega, HTa, oPa, zra, hBa⟩, by simp [intOf] <;> omega⟩
      · by_cases k1 : x.kd = 1
        · have y0 : wr.cell? ⟨ab, ao + i * 7, none⟩ = some (.int .i64 1) := (hB.cell (p := ⟨ab, ao + i * 7, none⟩) hab).trans (hcl0.trans (by rw [k1]))
          clear hcl0 k1 k0
          go_wp2
          go_region_held3 (fun w' => w'.cell? ⟨ab, ao + i * 7 + 1, none⟩ = some (.int .i64 x.t) ∧ w'.cell? ⟨ab, ao + i * 7 + 2, none⟩ = some (.int .i64 x.l) ∧ w'.cell? ⟨ab, ao + i * 7 + 3, none⟩ = some (.int .i64 x.b) ∧ w'.cell? ⟨ab, ao + i * 7 + 4, none⟩ = some (.int .i64 x.q) ∧ w'.cell? ⟨ab, ao + i * 7 + 5, none⟩ = some (.int .i64 x.r) ∧ w'.cell? ⟨ab, ao + i * 7 + 6, none⟩ = some (.int .i64 x.c)) ((repeat' apply And.intro) <;> (first | (go_keep; done) | (go_simp; done))) ((go_at_call 10; refine (HRx.out _ (HT.out.keep (by with_reducible (repeat' first | assumption | exact Below.refl _ _ | refine Below.drew ?_ | refine bdrewN ?_ _ | refine Below.setCell ?_ (by first | exact Nat.le_refl _ | (simp; done) | (simp; omega) | omega) _ | refine Below.alloc ?_ (by first | exact Nat.le_refl _ | (simp; done) | (simp; omega) | omega) _))) (by simp; omega)).mono ?_; rintro e wa ⟨q1, q2⟩; obtain ⟨ok, rfl⟩ := q1; obtain ⟨q1, q2⟩ := q2; have HTa : Hid (One (w.heap.size + 1) wa NA (remR P x.pr) (i + 1)) := q1; have hBa : Below w.heap.size w wa := Below.trans (show Below w.heap.size w _ from by with_reducible (repeat' first | assumption | exact Below.refl _ _ | refine Below.drew ?_ | refine bdrewN ?_ _ | refine Below.setCell ?_ (by first | exact Nat.le_refl _ | (simp; done) | (simp; omega) | omega) _ | refine Below.alloc ?_ (by first | exact Nat.le_refl _ | (simp; done) | (simp; omega) | omega) _)) (q2.mono (by omega)); have oPa : Own wa w.heap.size #[.int .i64 cx, .int .i64 cy] := Own.low (by with_reducible (repeat' first | assumption | refine Own.drew ?_ | refine Own.drewN ?_ _ | (refine Own.at ?_; first | rfl | (simp; done)) | refine Own.past ?_ _)) q2 (by omega); have zra : w.heap.size + 1 ≤ wa.heap.size := Nat.le_trans (by first | exact hzr | (simp; omega)) q2.size; have ya1 : wa.cell? ⟨ab, ao + i * 7 + 1, none⟩ = some (.int .i64 x.t) := (hBa.cell (p := ⟨ab, ao + i * 7 + 1, none⟩) hab).trans (hcl.out 1 _ rfl); have ya2 : wa.cell? ⟨ab, ao + i * 7 + 2, none⟩ = some (.int .i64 x.l) := (hBa.cell (p := ⟨ab, ao + i * 7 + 2, none⟩) hab).trans (hcl.out 2 _ rfl); have ya3 : wa.cell? ⟨ab, ao + i * 7 + 3, none⟩ = some (.int .i64 x.b) := (hBa.cell (p := ⟨ab, ao + i * 7 + 3, none⟩) hab).trans (hcl.out 3 _ rfl); have ya4 : wa.cell? ⟨ab, ao + i * 7 + 4, none⟩ = some (.int .i64 x.q) := (hBa.cell (p := ⟨ab, ao + i * 7 + 4, none⟩) hab).trans (hcl.out 4 _ rfl); have ya5 : wa.cell? ⟨ab, ao + i * 7 + 5, none⟩ = some (.int .i64 x.r) := (hBa.cell (p := ⟨ab, ao + i * 7 + 5, none⟩) hab).trans (hcl.out 5 _ rfl); have ya6 : wa.cell? ⟨ab, ao + i * 7 + 6, none⟩ = some (.int .i64 x.c) := (hBa.cell (p := ⟨ab, ao + i * 7 + 6, none⟩) hab).trans (hcl.out 6 _ rfl); clear q1 q2))
          go_wp2
          exact ⟨⟨i + 1, _, by go_num, by omega, HTa, oPa, zra, hBa⟩, by simp [intOf] <;> omega⟩
        · obtain ⟨kd, hkd⟩ : ∃ kd, kd = x.kd := ⟨_, rfl⟩
          rw [← hkd] at k0 k1
          have y0 : wr.cell? ⟨ab, ao + i * 7, none⟩ = some (.int .i64 kd) := (hB.cell (p := ⟨ab, ao + i * 7, none⟩) hab).trans (hcl0.trans (by rw [hkd]))
          clear hcl0 hkd
          go_wp2
          exact ⟨⟨i + 1, P, by go_num, by omega, (show One _ _ _ _ _ from (HT.out.keep (by with_reducible (repeat' first | assumption | exact Below.refl _ _ | refine Below.drew ?_ | refine bdrewN ?_ _ | refine Below.setCell ?_ (by first | exact Nat.le_refl _ | (simp; done) | (simp; omega) | omega) _ | refine Below.alloc ?_ (by first | exact Nat.le_refl _ | (simp; done) | (simp; omega) | omega) _))).more (by omega)), by with_reducible (repeat' first | assumption | refine Own.drew ?_ | refine Own.drewN ?_ _ | (refine Own.at ?_; first | rfl | (simp; done)) | refine Own.past ?_ _), by first | exact hzr | (simp; omega), by with_reducible (repeat' first | assumption | exact Below.refl _ _ | refine Below.drew ?_ | refine bdrewN ?_ _ | refine Below.setCell ?_ (by first | exact Nat.le_refl _ | (simp; done) | (simp; omega) | omega) _ | refine Below.alloc ?_ (by first | exact Nat.le_refl _ | (simp; done) | (simp; omega) | omega) _)⟩, by simp [intOf] <;> omega⟩
    · have hin : i = n := by omega
      have hlt' : ¬ (i : Int) < n := by omega
      clear HA HR HE
      have hHT := HT.out
      rw [hin] at hHT
      obtain ⟨DD, hBd, -⟩ := hHT
      have HBd : Hid (Bd wr NA DD P n) := hBd
      have HS : Hid (SrtP P) := (show SrtP P from hBd.srt)
      have hPl : P.length ≤ n := hBd.few
      have hwz : w.heap.size < wr.heap.size := by omega
      have be0 : wr.cell? ⟨w.heap.size, 0, none⟩ = some (.int .i64 cx) := oP.cell 0
      have be1 : wr.cell? ⟨w.heap.size, 1, none⟩ = some (.int .i64 cy) := oP.cell 1
      obtain ⟨L, hL⟩ : ∃ L, L = overP P cx cy := ⟨_, rfl⟩
      have HL0 : Hid (L = overP P cx cy) := hL
      obtain ⟨m, hm⟩ : ∃ m, m = P.length := ⟨_, rfl⟩
      obtain ⟨nl, hnl⟩ : ∃ nl, nl = L.length := ⟨_, rfl⟩
      have HOv : Hid (∀ W, Below wr.heap.size wr W → Calls Try.prog 13 #[.pointer (some ⟨NA, 0, none⟩), .agg #[.int .i64 cx, .int .i64 cy]] W fun e w' => (∃ q cap, e = .returned (.slice q nl cap) ∧ nl ≤ cap ∧ cap ≤ 9223372036854775807 ∧ Hid (RowC w' wr.heap.size (.slice q nl cap) L)) ∧ Below wr.heap.size wr w') := (show _ from fun W h => (bover_any W NA DD P n cx cy (HBd.out.keep h)).mono (by
        rintro e w' ⟨v, rfl, q1, q2⟩
        rw [← hL] at q1
        obtain ⟨q, cap, rfl, a1, a2, a3⟩ := l_each q1
        exact ⟨⟨q, cap, by rw [hnl], by rw [hnl]; exact a1, a2, (show RowG _ _ _ _ _ _ _ from by rw [hnl]; exact RowG.mono q1 h.size)⟩, bup h q2⟩))
      have HAl : Hid (∀ W, Below wr.heap.size wr W → Calls Try.prog 16 #[.pointer (some ⟨NA, 0, none⟩)] W fun e w' => (∃ q cap, e = .returned (.slice q m cap) ∧ m ≤ cap ∧ cap ≤ 9223372036854775807 ∧ Hid (RowE w' wr.heap.size (.slice q m cap) P)) ∧ Below wr.heap.size wr w' ∧ Below W.heap.size W w') := (show _ from fun W h => (ball_any W NA DD P n (HBd.out.keep h) (by have := HBd.out.few; have := Hlim.out; omega)).mono (by
        rintro e w' ⟨v, rfl, q1, q2⟩
        obtain ⟨q, cap, rfl, a1, a2, a3⟩ := p_each q1
        exact ⟨⟨q, cap, by rw [hm], by rw [hm]; exact a1, a2, (show RowG _ _ _ _ _ _ _ from by rw [hm]; exact RowG.mono q1 h.size)⟩, bup h q2, q2⟩))
      have HnL : Hid (nl = L.length) := hnl
      have HmP : Hid (m = P.length) := hm
      clear hL hPl HT hBd hnl hm
      go_wp2_with (first
        | (go_at_call 13; refine (HOv.out _ (by with_reducible (repeat' first | assumption | exact Below.refl _ _ | refine Below.drew ?_ | refine bdrewN ?_ _ | refine Below.setCell ?_ (by first | exact Nat.le_refl _ | (simp; done) | (simp; omega) | omega) _ | refine Below.alloc ?_ (by first | exact Nat.le_refl _ | (simp; done) | (simp; omega) | omega) _))).mono ?_; rintro e w4 ⟨⟨ql, cl, rfl, hl1, hl2, HRl⟩, hB4⟩; have b40 : w4.cell? ⟨w.heap.size, 0, none⟩ = some (.int .i64 cx) := (hB4.cell (p := ⟨w.heap.size, 0, none⟩) hwz).trans be0; have b41 : w4.cell? ⟨w.heap.size, 1, none⟩ = some (.int .i64 cy) := (hB4.cell (p := ⟨w.heap.size, 1, none⟩) hwz).trans be1)
        | (go_at_call 16; refine (HAl.out _ (by with_reducible (repeat' first | assumption | exact Below.refl _ _ | refine Below.drew ?_ | refine bdrewN ?_ _ | refine Below.setCell ?_ (by first | exact Nat.le_refl _ | (simp; done) | (simp; omega) | omega) _ | refine Below.alloc ?_ (by first | exact Nat.le_refl _ | (simp; done) | (simp; omega) | omega) _))).mono ?_; rintro e w5 ⟨⟨qa, ca, rfl, ha1, ha2, HRa⟩, hB5, hk5⟩; have hk5 : Below w4.heap.size w4 w5 := (bup (by with_reducible (repeat' first | assumption | exact Below.refl _ _ | refine Below.drew ?_ | refine bdrewN ?_ _ | refine Below.setCell ?_ (by first | exact Nat.le_refl _ | (simp; done) | (simp; omega) | omega) _ | refine Below.alloc ?_ (by first | exact Nat.le_refl _ | (simp; done) | (simp; omega) | omega) _)) hk5)))
      have HLe : Hid (∀ i, i < nl → ∃ g z, ql = some ⟨g, 0, none⟩ ∧ g < w5.heap.size ∧ L[i]? = some z ∧ w5.cell? ⟨g, i * 2, none⟩ = some (.int .i64 z.r) ∧ w5.cell? ⟨g, i * 2 + 1, none⟩ = some (.int .i64 z.c)) := (show _ from fun i hi => by
        have hr := RowG.keep HRl.out hk5
        rw [HnL.out] at hr
        obtain ⟨q, cap, e1, -, -, a3⟩ := l_each hr
        cases e1
        exact a3 i (by have := HnL.out; omega))
      have HPe : Hid (∀ k, k < m → ∃ g p, qa = some ⟨g, 0, none⟩ ∧ g < w5.heap.size ∧ P[k]? = some p ∧ w5.cell? ⟨g, k * 7, none⟩ = some (.int .i64 p.r) ∧ w5.cell? ⟨g, k * 7 + 1, none⟩ = some (.int .i64 p.c) ∧ w5.cell? ⟨g, k * 7 + 2, none⟩ = some (.bool true) ∧ w5.cell? ⟨g, k * 7 + 3, none⟩ = some (.int .i64 p.t) ∧ w5.cell? ⟨g, k * 7 + 4, none⟩ = some (.int .i64 p.l) ∧ w5.cell? ⟨g, k * 7 + 5, none⟩ = some (.int .i64 p.b) ∧ w5.cell? ⟨g, k * 7 + 6, none⟩ = some (.int .i64 p.q)) := (show _ from fun k hk => by
        have hr := HRa.out
        rw [HmP.out] at hr
        obtain ⟨q, cap, e1, -, -, a3⟩ := p_each hr
        cases e1
        exact a3 k (by have := HmP.out; omega))
      have hG : Below w.heap.size w w5 := hB.trans (hB5.mono (by omega))
      have be0 : w5.cell? ⟨w.heap.size, 0, none⟩ = some (.int .i64 cx) := (hB5.cell (p := ⟨w.heap.size, 0, none⟩) hwz).trans be0
      have be1 : w5.cell? ⟨w.heap.size, 1, none⟩ = some (.int .i64 cy) := (hB5.cell (p := ⟨w.heap.size, 1, none⟩) hwz).trans be1
      have hwz : w.heap.size < w5.heap.size := Nat.lt_of_lt_of_le hwz hB5.size
      have hB0 := Below.refl w5.heap.size w5
      clear HOv HAl HRl HRa hk5 hB5 hB4 b40 b41 HBd oP hzr hB
      go_loopw [9] (fun u9 w' => ∃ i : Nat, u9 = .int .i64 i ∧ i ≤ nl ∧ Below w5.heap.size w5 w') (fun u9 _ => nl - (intOf u9).toNat)
      case atStart => exact ⟨0, rfl, by omega, by with_reducible (repeat' first | assumption | exact Below.refl _ _ | refine Below.drew ?_ | refine bdrewN ?_ _ | refine Below.setCell ?_ (by first | exact Nat.le_refl _ | (simp; done) | (simp; omega) | omega) _ | refine Below.alloc ?_ (by first | exact Nat.le_refl _ | (simp; done) | (simp; omega) | omega) _)⟩
      case round =>
        clear hB0
        obtain ⟨i, rfl, hi, hB⟩ := hrel
        by_cases hlt : i < nl
        · have hlt' : (i : Int) < nl := by omega
          obtain ⟨g, z, rfl, hg, hz, ce0, ce1⟩ := HLe.out i hlt
          have HZ : Hid (L[i]? = some z) := hz
          clear hz
          go_wp2
          go_loopw [10, 11] (fun u10 u11 w' => ∃ k : Nat, u11 = .int .i64 k ∧ k ≤ m ∧ u10 = .bool ((P.take k).any (tells cx cy z)) ∧ Below w5.heap.size w5 w') (fun _ u11 _ => m - (intOf u11).toNat)
          case atStart => exact ⟨0, rfl, by omega, by simp, by with_reducible (repeat' first | assumption | exact Below.refl _ _ | refine Below.drew ?_ | refine bdrewN ?_ _ | refine Below.setCell ?_ (by first | exact Nat.le_refl _ | (simp; done) | (simp; omega) | omega) _ | refine Below.alloc ?_ (by first | exact Nat.le_refl _ | (simp; done) | (simp; omega) | omega) _)⟩
          case round =>
            clear hB
            obtain ⟨k, rfl, hk, rfl, hB⟩ := hrel
            obtain ⟨has, hhas⟩ : ∃ has, has = (P.take k).any (tells cx cy z) := ⟨_, rfl⟩
            rw [← hhas]
            by_cases hlk : k < m
            · have hlk' : (k : Int) < m := by omega
              obtain ⟨ga, p, rfl, hga, hp, e0, e1, e2, e3, e4, e5, e6⟩ := HPe.out k hlk
              have HX : Hid ((P.take (k + 1)).any (tells cx cy z) = (has || (sameC p.r p.c z.r z.c && inB p.t p.l p.b p.q cx cy))) := (show _ = _ by rw [any_snoc _ hp, ← hhas]; rfl)
              clear hp hhas
              have d0 : wr.cell? ⟨ga, k * 7, none⟩ = some (.int .i64 p.r) := (hB.cell (p := ⟨ga, k * 7, none⟩) hga).trans e0
              have d1 : wr.cell? ⟨ga, k * 7 + 1, none⟩ = some (.int .i64 p.c) := (hB.cell (p := ⟨ga, k * 7 + 1, none⟩) hga).trans e1
              have d2 : wr.cell? ⟨ga, k * 7 + 2, none⟩ = some (.bool true) := (hB.cell (p := ⟨ga, k * 7 + 2, none⟩) hga).trans e2
              have d3 : wr.cell? ⟨ga, k * 7 + 3, none⟩ = some (.int .i64 p.t) := (hB.cell (p := ⟨ga, k * 7 + 3, none⟩) hga).trans e3
              have d4 : wr.cell? ⟨ga, k * 7 + 4, none⟩ = some (.int .i64 p.l) := (hB.cell (p := ⟨ga, k * 7 + 4, none⟩) hga).trans e4
              have d5 : wr.cell? ⟨ga, k * 7 + 5, none⟩ = some (.int .i64 p.b) := (hB.cell (p := ⟨ga, k * 7 + 5, none⟩) hga).trans e5
              have d6 : wr.cell? ⟨ga, k * 7 + 6, none⟩ = some (.int .i64 p.q) := (hB.cell (p := ⟨ga, k * 7 + 6, none⟩) hga).trans e6
              have c0 : wr.cell? ⟨g, i * 2, none⟩ = some (.int .i64 z.r) := (hB.cell (p := ⟨g, i * 2, none⟩) hg).trans ce0
              have c1 : wr.cell? ⟨g, i * 2 + 1, none⟩ = some (.int .i64 z.c) := (hB.cell (p := ⟨g, i * 2 + 1, none⟩) hg).trans ce1
              have b0 : wr.cell? ⟨w.heap.size, 0, none⟩ = some (.int .i64 cx) := (hB.cell (p := ⟨w.heap.size, 0, none⟩) hwz).trans be0
              have b1 : wr.cell? ⟨w.heap.size, 1, none⟩ = some (.int .i64 cy) := (hB.cell (p := ⟨w.heap.size, 1, none⟩) hwz).trans be1
              have heq := eqC p.r p.c z.r z.c
              have HI : Hid (∀ W, Calls Try.prog 17 #[.agg #[.int .i64 p.t, .int .i64 p.l, .int .i64 p.b, .int .i64 p.q], .agg #[.int .i64 cx, .int .i64 cy]] W fun e w' => e = .returned (.bool (inB p.t p.l p.b p.q cx cy)) ∧ Below W.heap.size W w') := (show _ from fun W => in_any _ _ _ _ _ _ W)
              cases has
              · cases hsm : sameC p.r p.c z.r z.c
                · rw [hsm] at heq
                  have HX' : Hid ((P.take (k + 1)).any (tells cx cy z) = false) := (show _ = _ by rw [HX.out, hsm]; rfl)
                  clear HX hsm HI
                  go_wp2
                  go_quiet (fail)
                  go_wp2
                  exact ⟨⟨k + 1, by go_num, by omega, by rw [HX'.out], by with_reducible (repeat' first | assumption | exact Below.refl _ _ | refine Below.drew ?_ | refine bdrewN ?_ _ | refine Below.setCell ?_ (by first | exact Nat.le_refl _ | (simp; done) | (simp; omega) | omega) _ | refine Below.alloc ?_ (by first | exact Nat.le_refl _ | (simp; done) | (simp; omega) | omega) _)⟩, by simp [intOf] <;> omega⟩
                · rw [hsm] at heq
                  have HX' : Hid ((P.take (k + 1)).any (tells cx cy z) = inB p.t p.l p.b p.q cx cy) := (show _ = _ by rw [HX.out, hsm]; simp)
                  clear HX hsm
                  go_wp2
                  go_region_held3 (fun w' => w'.cell? ⟨ga, k * 7, none⟩ = some (.int .i64 p.r) ∧ w'.cell? ⟨ga, k * 7 + 1, none⟩ = some (.int .i64 p.c) ∧ w'.cell? ⟨ga, k * 7 + 2, none⟩ = some (.bool true) ∧ w'.cell? ⟨ga, k * 7 + 3, none⟩ = some (.int .i64 p.t) ∧ w'.cell? ⟨ga, k * 7 + 4, none⟩ = some (.int .i64 p.l) ∧ w'.cell? ⟨ga, k * 7 + 5, none⟩ = some (.int .i64 p.b) ∧ w'.cell? ⟨ga, k * 7 + 6, none⟩ = some (.int .i64 p.q) ∧ w'.cell? ⟨g, i * 2, none⟩ = some (.int .i64 z.r) ∧ w'.cell? ⟨g, i * 2 + 1, none⟩ = some (.int .i64 z.c) ∧ w'.cell? ⟨w.heap.size, 0, none⟩ = some (.int .i64 cx) ∧ w'.cell? ⟨w.heap.size, 1, none⟩ = some (.int .i64 cy)) ((repeat' apply And.intro) <;> (first | (go_keep; done) | (go_simp; done))) ((go_at_call 17; refine (HI.out _).mono ?_; rintro e wa ⟨rfl, hb⟩; have hBa : Below w5.heap.size w5 wa := bup (by with_reducible (repeat' first | assumption | exact Below.refl _ _ | refine Below.drew ?_ | refine bdrewN ?_ _ | refine Below.setCell ?_ (by first | exact Nat.le_refl _ | (simp; done) | (simp; omega) | omega) _ | refine Below.alloc ?_ (by first | exact Nat.le_refl _ | (simp; done) | (simp; omega) | omega) _)) hb; have qa0 : wa.cell? ⟨ga, k * 7, none⟩ = some (.int .i64 p.r) := (hBa.cell (p := ⟨ga, k * 7, none⟩) hga).trans e0; have qa1 : wa.cell? ⟨ga, k * 7 + 1, none⟩ = some (.int .i64 p.c) := (hBa.cell (p := ⟨ga, k * 7 + 1, none⟩) hga).trans e1; have qa2 : wa.cell? ⟨ga, k * 7 + 2, none⟩ = some (.bool true) := (hBa.cell (p := ⟨ga, k * 7 + 2, none⟩) hga).trans e2; have qa3 : wa.cell? ⟨ga, k * 7 + 3, none⟩ = some (.int .i64 p.t) := (hBa.cell (p := ⟨ga, k * 7 + 3, none⟩) hga).trans e3; have qa4 : wa.cell? ⟨ga, k * 7 + 4, none⟩ = some (.int .i64 p.l) := (hBa.cell (p := ⟨ga, k * 7 + 4, none⟩) hga).trans e4; have qa5 : wa.cell? ⟨ga, k * 7 + 5, none⟩ = some (.int .i64 p.b) := (hBa.cell (p := ⟨ga, k * 7 + 5, none⟩) hga).trans e5; have qa6 : wa.cell? ⟨ga, k * 7 + 6, none⟩ = some (.int .i64 p.q) := (hBa.cell (p := ⟨ga, k * 7 + 6, none⟩) hga).trans e6; have ca0 : wa.cell? ⟨g, i * 2, none⟩ = some (.int .i64 z.r) := (hBa.cell (p := ⟨g, i * 2, none⟩) hg).trans ce0; have ca1 : wa.cell? ⟨g, i * 2 + 1, none⟩ = some (.int .i64 z.c) := (hBa.cell (p := ⟨g, i * 2 + 1, none⟩) hg).trans ce1; have ba0 : wa.cell? ⟨w.heap.size, 0, none⟩ = some (.int .i64 cx) := (hBa.cell (p := ⟨w.heap.size, 0, none⟩) hwz).trans be0; have ba1 : wa.cell? ⟨w.heap.size, 1, none⟩ = some (.int .i64 cy) := (hBa.cell (p := ⟨w.heap.size, 1, none⟩) hwz).trans be1; clear hb))
                  go_wp2
                  exact ⟨⟨k + 1, by go_num, by omega, by rw [HX'.out], by with_reducible (repeat' first | assumption | exact Below.refl _ _ | refine Below.drew ?_ | refine bdrewN ?_ _ | refine Below.setCell ?_ (by first | exact Nat.le_refl _ | (simp; done) | (simp; omega) | omega) _ | refine Below.alloc ?_ (by first | exact Nat.le_refl _ | (simp; done) | (simp; omega) | omega) _)⟩, by simp [intOf] <;> omega⟩
              · have HX' : Hid ((P.take (k + 1)).any (tells cx cy z) = true) := (show _ = _ by rw [HX.out]; rfl)
                clear HX heq HI
                go_wp2
                go_quiet (fail)
                go_wp2
                exact ⟨⟨k + 1, by go_num, by omega, by rw [HX'.out], by with_reducible (repeat' first | assumption | exact Below.refl _ _ | refine Below.drew ?_ | refine bdrewN ?_ _ | refine Below.setCell ?_ (by first | exact Nat.le_refl _ | (simp; done) | (simp; omega) | omega) _ | refine Below.alloc ?_ (by first | exact Nat.le_refl _ | (simp; done) | (simp; omega) | omega) _)⟩, by simp [intOf] <;> omega⟩
            · have hlk' : ¬ (k : Int) < m := by omega
              have hkm : k = m := by omega
              have hh : has = true := by
                rw [hhas, hkm, HmP.out, List.take_length]
                have q := HZ.out
                rw [HL0.out] at q
                exact over_has HS.out q
              subst hh
              clear hhas hkm
              have c0 : wr.cell? ⟨g, i * 2, none⟩ = some (.int .i64 z.r) := (hB.cell (p := ⟨g, i * 2, none⟩) hg).trans ce0
              have c1 : wr.cell? ⟨g, i * 2 + 1, none⟩ = some (.int .i64 z.c) := (hB.cell (p := ⟨g, i * 2 + 1, none⟩) hg).trans ce1
              by_cases i0 : i = 0
              · subst i0
                go_wp2
                go_quiet (fail)
                go_wp2
                exact ⟨⟨1, by go_num, by omega, by with_reducible (repeat' first | assumption | exact Below.refl _ _ | refine Below.drew ?_ | refine bdrewN ?_ _ | refine Below.setCell ?_ (by first | exact Nat.le_refl _ | (simp; done) | (simp; omega) | omega) _ | refine Below.alloc ?_ (by first | exact Nat.le_refl _ | (simp; done) | (simp; omega) | omega) _)⟩, by simp [intOf] <;> omega⟩
              · obtain ⟨j, hj⟩ : ∃ j, i = j + 1 := ⟨i - 1, by omega⟩
                have hgt : 0 < i := by omega
                have hgt' : (0 : Int) < (i : Int) := by omega
                have hw : IntKind.i64.wrap ((i : Int) - 1) = (j : Int) := by rw [IntKind.wrap_i64]; omega
                have hjl : j < nl := by omega
                have hjl' : (j : Int) < nl := by omega
                obtain ⟨g', a, hq, hg', hza, ae0, ae1⟩ := HLe.out j hjl
                cases hq
                have HBe : Hid (∀ W, Calls Try.prog 18 #[.agg #[.int .i64 a.r, .int .i64 a.c], .agg #[.int .i64 z.r, .int .i64 z.c]] W fun e w' => e = .returned (.bool true) ∧ Below W.heap.size W w') := (show _ from fun W => by
                  have q := HZ.out
                  rw [HL0.out, hj] at q
                  rw [HL0.out] at hza
                  have := bef_any a.r a.c z.r z.c W
                  rw [over_next HS.out hza q] at this
                  exact this)
                clear hza hj i0
                have a0 : wr.cell? ⟨g, j * 2, none⟩ = some (.int .i64 a.r) := (hB.cell (p := ⟨g, j * 2, none⟩) hg).trans ae0
                have a1 : wr.cell? ⟨g, j * 2 + 1, none⟩ = some (.int .i64 a.c) := (hB.cell (p := ⟨g, j * 2 + 1, none⟩) hg).trans ae1
                go_wp2
                go_region_held3 (fun w' => w'.cell? ⟨g, j * 2, none⟩ = some (.int .i64 a.r) ∧ w'.cell? ⟨g, j * 2 + 1, none⟩ = some (.int .i64 a.c) ∧ w'.cell? ⟨g, i * 2, none⟩ = some (.int .i64 z.r) ∧ w'.cell? ⟨g, i * 2 + 1, none⟩ = some (.int .i64 z.c)) ((repeat' apply And.intro) <;> (first | (go_keep; done) | (go_simp; done))) ((go_at_call 18; refine (HBe.out _).mono ?_; rintro e wa ⟨rfl, hb⟩; have hBa : Below w5.heap.size w5 wa := bup (by with_reducible (repeat' first | assumption | exact Below.refl _ _ | refine Below.drew ?_ | refine bdrewN ?_ _ | refine Below.setCell ?_ (by first | exact Nat.le_refl _ | (simp; done) | (simp; omega) | omega) _ | refine Below.alloc ?_ (by first | exact Nat.le_refl _ | (simp; done) | (simp; omega) | omega) _)) hb; have ca0 : wa.cell? ⟨g, i * 2, none⟩ = some (.int .i64 z.r) := (hBa.cell (p := ⟨g, i * 2, none⟩) hg).trans ce0; have ca1 : wa.cell? ⟨g, i * 2 + 1, none⟩ = some (.int .i64 z.c) := (hBa.cell (p := ⟨g, i * 2 + 1, none⟩) hg).trans ce1; have aa0 : wa.cell? ⟨g, j * 2, none⟩ = some (.int .i64 a.r) := (hBa.cell (p := ⟨g, j * 2, none⟩) hg).trans ae0; have aa1 : wa.cell? ⟨g, j * 2 + 1, none⟩ = some (.int .i64 a.c) := (hBa.cell (p := ⟨g, j * 2 + 1, none⟩) hg).trans ae1; clear hb))
                go_wp2
                exact ⟨⟨i + 1, by go_num, by omega, by with_reducible (repeat' first | assumption | exact Below.refl _ _ | refine Below.drew ?_ | refine bdrewN ?_ _ | refine Below.setCell ?_ (by first | exact Nat.le_refl _ | (simp; done) | (simp; omega) | omega) _ | refine Below.alloc ?_ (by first | exact Nat.le_refl _ | (simp; done) | (simp; omega) | omega) _)⟩, by simp [intOf] <;> omega⟩
        · have hlt' : ¬ (i : Int) < nl := by omega
          clear hlt hi
          go_wp2
          go_loopw [12] (fun u12 w' => ∃ k : Nat, u12 = .int .i64 k ∧ k ≤ m ∧ Below w5.heap.size w5 w') (fun u12 _ => m - (intOf u12).toNat)
          case atStart => exact ⟨0, rfl, by omega, by with_reducible (repeat' first | assumption | exact Below.refl _ _ | refine Below.drew ?_ | refine bdrewN ?_ _ | refine Below.setCell ?_ (by first | exact Nat.le_refl _ | (simp; done) | (simp; omega) | omega) _ | refine Below.alloc ?_ (by first | exact Nat.le_refl _ | (simp; done) | (simp; omega) | omega) _)⟩
          case round =>
            clear hB hlt'
            obtain ⟨k, rfl, hk, hB⟩ := hrel
            by_cases hlk : k < m
            · have hlk' : (k : Int) < m := by omega
              obtain ⟨ga, p, rfl, hga, hp, e0, e1, e2, e3, e4, e5, e6⟩ := HPe.out k hlk
              have HPk : Hid (P[k]? = some p) := hp
              clear hp
              go_wp2
              go_loopw [13, 14] (fun u13 u14 w' => ∃ i : Nat, u14 = .int .i64 i ∧ i ≤ nl ∧ u13 = .bool ((L.take i).any (isCl p)) ∧ Below w5.heap.size w5 w') (fun _ u14 _ => nl - (intOf u14).toNat)
              case atStart => exact ⟨0, rfl, by omega, by simp, by with_reducible (repeat' first | assumption | exact Below.refl _ _ | refine Below.drew ?_ | refine bdrewN ?_ _ | refine Below.setCell ?_ (by first | exact Nat.le_refl _ | (simp; done) | (simp; omega) | omega) _ | refine Below.alloc ?_ (by first | exact Nat.le_refl _ | (simp; done) | (simp; omega) | omega) _)⟩
              case round =>
                clear hB
                obtain ⟨i, rfl, hi, rfl, hB⟩ := hrel
                obtain ⟨has, hhas⟩ : ∃ has, has = (L.take i).any (isCl p) := ⟨_, rfl⟩
                rw [← hhas]
                have d0 : wr.cell? ⟨ga, k * 7, none⟩ = some (.int .i64 p.r) := (hB.cell (p := ⟨ga, k * 7, none⟩) hga).trans e0
                have d1 : wr.cell? ⟨ga, k * 7 + 1, none⟩ = some (.int .i64 p.c) := (hB.cell (p := ⟨ga, k * 7 + 1, none⟩) hga).trans e1
                have d2 : wr.cell? ⟨ga, k * 7 + 2, none⟩ = some (.bool true) := (hB.cell (p := ⟨ga, k * 7 + 2, none⟩) hga).trans e2
                have d3 : wr.cell? ⟨ga, k * 7 + 3, none⟩ = some (.int .i64 p.t) := (hB.cell (p := ⟨ga, k * 7 + 3, none⟩) hga).trans e3
                have d4 : wr.cell? ⟨ga, k * 7 + 4, none⟩ = some (.int .i64 p.l) := (hB.cell (p := ⟨ga, k * 7 + 4, none⟩) hga).trans e4
                have d5 : wr.cell? ⟨ga, k * 7 + 5, none⟩ = some (.int .i64 p.b) := (hB.cell (p := ⟨ga, k * 7 + 5, none⟩) hga).trans e5
                have d6 : wr.cell? ⟨ga, k * 7 + 6, none⟩ = some (.int .i64 p.q) := (hB.cell (p := ⟨ga, k * 7 + 6, none⟩) hga).trans e6
                by_cases hlt : i < nl
                · have hlt' : (i : Int) < nl := by omega
                  obtain ⟨g, z, rfl, hg, hz, ce0, ce1⟩ := HLe.out i hlt
                  have HX : Hid ((L.take (i + 1)).any (isCl p) = (has || sameC z.r z.c p.r p.c)) := (show _ = _ by rw [any_snoc _ hz, ← hhas]; rfl)
                  clear hz hhas
                  have c0 : wr.cell? ⟨g, i * 2, none⟩ = some (.int .i64 z.r) := (hB.cell (p := ⟨g, i * 2, none⟩) hg).trans ce0
                  have c1 : wr.cell? ⟨g, i * 2 + 1, none⟩ = some (.int .i64 z.c) := (hB.cell (p := ⟨g, i * 2 + 1, none⟩) hg).trans ce1
                  have heq := eqC z.r z.c p.r p.c
                  cases has
                  · go_wp2
                    go_quiet (fail)
                    go_wp2
                    exact ⟨⟨i + 1, by go_num, by omega, by rw [HX.out, Bool.false_or], by with_reducible (repeat' first | assumption | exact Below.refl _ _ | refine Below.drew ?_ | refine bdrewN ?_ _ | refine Below.setCell ?_ (by first | exact Nat.le_refl _ | (simp; done) | (simp; omega) | omega) _ | refine Below.alloc ?_ (by first | exact Nat.le_refl _ | (simp; done) | (simp; omega) | omega) _)⟩, by simp [intOf] <;> omega⟩
                  · go_wp2
                    go_quiet (fail)
                    go_wp2
                    exact ⟨⟨i + 1, by go_num, by omega, by rw [HX.out, Bool.true_or], by with_reducible (repeat' first | assumption | exact Below.refl _ _ | refine Below.drew ?_ | refine bdrewN ?_ _ | refine Below.setCell ?_ (by first | exact Nat.le_refl _ | (simp; done) | (simp; omega) | omega) _ | refine Below.alloc ?_ (by first | exact Nat.le_refl _ | (simp; done) | (simp; omega) | omega) _)⟩, by simp [intOf] <;> omega⟩
                · have hlt' : ¬ (i : Int) < nl := by omega
                  have hin2 : i = nl := by omega
                  rw [hin2, HnL.out, List.take_length] at hhas
                  have HH : Hid (has = L.any (isCl p)) := hhas
                  clear hhas hin2 hi hlt
                  have b0 : wr.cell? ⟨w.heap.size, 0, none⟩ = some (.int .i64 cx) := (hB.cell (p := ⟨w.heap.size, 0, none⟩) hwz).trans be0
                  have b1 : wr.cell? ⟨w.heap.size, 1, none⟩ = some (.int .i64 cy) := (hB.cell (p := ⟨w.heap.size, 1, none⟩) hwz).trans be1
                  have HI : Hid (∀ W, Calls Try.prog 17 #[.agg #[.int .i64 p.t, .int .i64 p.l, .int .i64 p.b, .int .i64 p.q], .agg #[.int .i64 cx, .int .i64 cy]] W fun e w' => e = .returned (.bool (inB p.t p.l p.b p.q cx cy)) ∧ Below W.heap.size W w') := (show _ from fun W => in_any _ _ _ _ _ _ W)
                  cases hin : inB p.t p.l p.b p.q cx cy
                  · rw [hin] at HI
                    clear hin HH
                    go_wp2
                    refine wp_region_held_drew (S := (fun w' => w'.cell? ⟨ga, k * 7, none⟩ = some (.int .i64 p.r) ∧ w'.cell? ⟨ga, k * 7 + 1, none⟩ = some (.int .i64 p.c) ∧ w'.cell? ⟨ga, k * 7 + 2, none⟩ = some (.bool true) ∧ w'.cell? ⟨ga, k * 7 + 3, none⟩ = some (.int .i64 p.t) ∧ w'.cell? ⟨ga, k * 7 + 4, none⟩ = some (.int .i64 p.l) ∧ w'.cell? ⟨ga, k * 7 + 5, none⟩ = some (.int .i64 p.b) ∧ w'.cell? ⟨ga, k * 7 + 6, none⟩ = some (.int .i64 p.q) ∧ w'.cell? ⟨w.heap.size, 0, none⟩ = some (.int .i64 cx) ∧ w'.cell? ⟨w.heap.size, 1, none⟩ = some (.int .i64 cy))) (by kernel_rfl) (by (try dsimp only); ((repeat' apply And.intro) <;> (first | (go_keep; done) | (go_simp; done)))) (fun hHeld => ?_)
                    refine wpAnyH_take (i := 0) (v := .slice (some ⟨ga, 0, none⟩) m ca) rfl (by kernel_rfl) (by kernel_rfl) (by kernel_rfl) (fun _ _ _ h => h) (Or.inl ⟨by first | rfl | kernel_rfl, by intro wz hSw; (try dsimp only at hSw); go_simp⟩) (by assumption) ?_
                    (try simp only [Act.put, List.getElem_toArray, List.getElem_cons_succ, List.getElem_cons_zero, List.setIfInBounds_toArray, List.set_cons_zero, List.set_cons_succ])
                    refine wpAnyH_take (i := 1) (v := .int .i64 (k : Int)) rfl (by kernel_rfl) (by kernel_rfl) (by kernel_rfl) (fun _ _ _ h => h) (Or.inl ⟨by first | rfl | kernel_rfl, by intro wz hSw; (try dsimp only at hSw); go_simp⟩) (by assumption) ?_
                    (try simp only [Act.put, List.getElem_toArray, List.getElem_cons_succ, List.getElem_cons_zero, List.setIfInBounds_toArray, List.set_cons_zero, List.set_cons_succ])
                    refine wpAnyH_take (i := 2) (v := .pointer (some ⟨ga, k * 7, none⟩)) rfl (by kernel_rfl) (by kernel_rfl) (by kernel_rfl) (fun _ _ _ h => h) (Or.inl ⟨by first | rfl | kernel_rfl, by intro wz hSw; (try dsimp only at hSw); go_simp⟩) (by assumption) ?_
                    (try simp only [Act.put, List.getElem_toArray, List.getElem_cons_succ, List.getElem_cons_zero, List.setIfInBounds_toArray, List.set_cons_zero, List.set_cons_succ])
                    refine wpAnyH_take (i := 3) (v := .pointer (some ⟨ga, k * 7 + 2, none⟩)) rfl (by kernel_rfl) (by kernel_rfl) (by kernel_rfl) (fun _ _ _ h => h) (Or.inl ⟨by first | rfl | kernel_rfl, by intro wz hSw; (try dsimp only at hSw); go_simp⟩) (by assumption) ?_
                    (try simp only [Act.put, List.getElem_toArray, List.getElem_cons_succ, List.getElem_cons_zero, List.setIfInBounds_toArray, List.set_cons_zero, List.set_cons_succ])
                    refine wpAnyH_take (i := 4) (v := .pointer (some ⟨ga, k * 7 + 3, none⟩)) rfl (by kernel_rfl) (by kernel_rfl) (by kernel_rfl) (fun _ _ _ h => h) (Or.inl ⟨by first | rfl | kernel_rfl, by intro wz hSw; (try dsimp only at hSw); go_simp⟩) (by assumption) ?_
                    (try simp only [Act.put, List.getElem_toArray, List.getElem_cons_succ, List.getElem_cons_zero, List.setIfInBounds_toArray, List.set_cons_zero, List.set_cons_succ])
                    refine wpAnyH_take (i := 5) (v := .agg #[.int .i64 p.t, .int .i64 p.l, .int .i64 p.b, .int .i64 p.q]) rfl (by kernel_rfl) (by kernel_rfl) (by kernel_rfl) (fun _ _ _ h => h) (Or.inl ⟨by first | rfl | kernel_rfl, by intro wz hSw; (try dsimp only at hSw); go_simp⟩) (by assumption) ?_
                    (try simp only [Act.put, List.getElem_toArray, List.getElem_cons_succ, List.getElem_cons_zero, List.setIfInBounds_toArray, List.set_cons_zero, List.set_cons_succ])
                    refine wpAnyH_take (i := 6) (v := .agg #[.int .i64 cx, .int .i64 cy]) rfl (by kernel_rfl) (by kernel_rfl) (by kernel_rfl) (fun _ _ _ h => h) (Or.inl ⟨by first | rfl | kernel_rfl, by intro wz hSw; (try dsimp only at hSw); go_simp⟩) (by assumption) ?_
                    (try simp only [Act.put, List.getElem_toArray, List.getElem_cons_succ, List.getElem_cons_zero, List.setIfInBounds_toArray, List.set_cons_zero, List.set_cons_succ])
                    refine wpAnyH_ready (rs := [7]) (by kernel_rfl) (by simp) ?_
                    refine AllReadyH.cons rfl (fun K hK => ?_) ?_
                    · go_simp
                      (go_at_call 17; refine (HI.out _).mono ?_; rintro e wa ⟨rfl, hb⟩; have hBa : Below w5.heap.size w5 wa := bup (by with_reducible (repeat' first | assumption | exact Below.refl _ _ | refine Below.drew ?_ | refine bdrewN ?_ _ | refine Below.setCell ?_ (by first | exact Nat.le_refl _ | (simp; done) | (simp; omega) | omega) _ | refine Below.alloc ?_ (by first | exact Nat.le_refl _ | (simp; done) | (simp; omega) | omega) _)) hb; have qa0 : wa.cell? ⟨ga, k * 7, none⟩ = some (.int .i64 p.r) := (hBa.cell (p := ⟨ga, k * 7, none⟩) hga).trans e0; have qa1 : wa.cell? ⟨ga, k * 7 + 1, none⟩ = some (.int .i64 p.c) := (hBa.cell (p := ⟨ga, k * 7 + 1, none⟩) hga).trans e1; have qa2 : wa.cell? ⟨ga, k * 7 + 2, none⟩ = some (.bool true) := (hBa.cell (p := ⟨ga, k * 7 + 2, none⟩) hga).trans e2; have qa3 : wa.cell? ⟨ga, k * 7 + 3, none⟩ = some (.int .i64 p.t) := (hBa.cell (p := ⟨ga, k * 7 + 3, none⟩) hga).trans e3; have qa4 : wa.cell? ⟨ga, k * 7 + 4, none⟩ = some (.int .i64 p.l) := (hBa.cell (p := ⟨ga, k * 7 + 4, none⟩) hga).trans e4; have qa5 : wa.cell? ⟨ga, k * 7 + 5, none⟩ = some (.int .i64 p.b) := (hBa.cell (p := ⟨ga, k * 7 + 5, none⟩) hga).trans e5; have qa6 : wa.cell? ⟨ga, k * 7 + 6, none⟩ = some (.int .i64 p.q) := (hBa.cell (p := ⟨ga, k * 7 + 6, none⟩) hga).trans e6; have ba0 : wa.cell? ⟨w.heap.size, 0, none⟩ = some (.int .i64 cx) := (hBa.cell (p := ⟨w.heap.size, 0, none⟩) hwz).trans be0; have ba1 : wa.cell? ⟨w.heap.size, 1, none⟩ = some (.int .i64 cy) := (hBa.cell (p := ⟨w.heap.size, 1, none⟩) hwz).trans be1; clear hb)
                      go_wp2_with fail
                      refine hK.out _ _ (by (try dsimp only); first | (with_reducible assumption) | ((repeat' apply And.intro) <;> (first | (go_keep; done) | (go_simp; done)))) (fun hHeld => ?_)
                      clear hK K
                      (try simp only [Act.put, List.getElem_toArray, List.getElem_cons_succ, List.getElem_cons_zero, List.setIfInBounds_toArray, List.set_cons_zero, List.set_cons_succ])
                      refine wpAnyH_take (i := 8) (v := .bool false) rfl (by kernel_rfl) (by kernel_rfl) (by kernel_rfl) (fun _ _ _ h => h) (Or.inl ⟨by first | rfl | kernel_rfl, by intro wz hSw; (try dsimp only at hSw); go_simp⟩) (by assumption) ?_
                      (try simp only [Act.put, List.getElem_toArray, List.getElem_cons_succ, List.getElem_cons_zero, List.setIfInBounds_toArray, List.set_cons_zero, List.set_cons_succ])
                      refine wpAnyH_take (i := 9) (v := undef) rfl (by kernel_rfl) (by kernel_rfl) (by kernel_rfl) (fun _ _ _ h => h) (Or.inr ⟨by kernel_rfl, rfl⟩) (by assumption) ?_
                      (try simp only [Act.put, List.getElem_toArray, List.getElem_cons_succ, List.getElem_cons_zero, List.setIfInBounds_toArray, List.set_cons_zero, List.set_cons_succ])
                      refine wpAnyH_take (i := 10) (v := undef) rfl (by kernel_rfl) (by kernel_rfl) (by kernel_rfl) (fun _ _ _ h => h) (Or.inr ⟨by kernel_rfl, rfl⟩) (by assumption) ?_
                      (try simp only [Act.put, List.getElem_toArray, List.getElem_cons_succ, List.getElem_cons_zero, List.setIfInBounds_toArray, List.set_cons_zero, List.set_cons_succ])
                      refine wpAnyH_take (i := 11) (v := .bool false) rfl (by kernel_rfl) (by kernel_rfl) (by kernel_rfl) (fun _ _ _ h => h) (Or.inl ⟨by first | rfl | kernel_rfl, by intro wz hSw; (try dsimp only at hSw); go_simp⟩) (by assumption) ?_
                      (try simp only [Act.put, List.getElem_toArray, List.getElem_cons_succ, List.getElem_cons_zero, List.setIfInBounds_toArray, List.set_cons_zero, List.set_cons_succ])
                      refine wpAnyH_done (by kernel_rfl) ?_ _
                      go_wp2
                      exact ⟨⟨k + 1, by go_num, by omega, by with_reducible (repeat' first | assumption | exact Below.refl _ _ | refine Below.drew ?_ | refine bdrewN ?_ _ | refine Below.setCell ?_ (by first | exact Nat.le_refl _ | (simp; done) | (simp; omega) | omega) _ | refine Below.alloc ?_ (by first | exact Nat.le_refl _ | (simp; done) | (simp; omega) | omega) _)⟩, by simp [intOf] <;> omega⟩
                    exact AllReadyH.nil
                  · rw [hin] at HI
                    have hh : has = true := by rw [HH.out, HL0.out]; exact over_told HS.out HPk.out hin
                    subst hh
                    clear hin HH
                    go_wp2
                    go_region_held3 (fun w' => w'.cell? ⟨ga, k * 7, none⟩ = some (.int .i64 p.r) ∧ w'.cell? ⟨ga, k * 7 + 1, none⟩ = some (.int .i64 p.c) ∧ w'.cell? ⟨ga, k * 7 + 2, none⟩ = some (.bool true) ∧ w'.cell? ⟨ga, k * 7 + 3, none⟩ = some (.int .i64 p.t) ∧ w'.cell? ⟨ga, k * 7 + 4, none⟩ = some (.int .i64 p.l) ∧ w'.cell? ⟨ga, k * 7 + 5, none⟩ = some (.int .i64 p.b) ∧ w'.cell? ⟨ga, k * 7 + 6, none⟩ = some (.int .i64 p.q) ∧ w'.cell? ⟨w.heap.size, 0, none⟩ = some (.int .i64 cx) ∧ w'.cell? ⟨w.heap.size, 1, none⟩ = some (.int .i64 cy)) ((repeat' apply And.intro) <;> (first | (go_keep; done) | (go_simp; done))) ((go_at_call 17; refine (HI.out _).mono ?_; rintro e wa ⟨rfl, hb⟩; have hBa : Below w5.heap.size w5 wa := bup (by with_reducible (repeat' first | assumption | exact Below.refl _ _ | refine Below.drew ?_ | refine bdrewN ?_ _ | refine Below.setCell ?_ (by first | exact Nat.le_refl _ | (simp; done) | (simp; omega) | omega) _ | refine Below.alloc ?_ (by first | exact Nat.le_refl _ | (simp; done) | (simp; omega) | omega) _)) hb; have qa0 : wa.cell? ⟨ga, k * 7, none⟩ = some (.int .i64 p.r) := (hBa.cell (p := ⟨ga, k * 7, none⟩) hga).trans e0; have qa1 : wa.cell? ⟨ga, k * 7 + 1, none⟩ = some (.int .i64 p.c) := (hBa.cell (p := ⟨ga, k * 7 + 1, none⟩) hga).trans e1; have qa2 : wa.cell? ⟨ga, k * 7 + 2, none⟩ = some (.bool true) := (hBa.cell (p := ⟨ga, k * 7 + 2, none⟩) hga).trans e2; have qa3 : wa.cell? ⟨ga, k * 7 + 3, none⟩ = some (.int .i64 p.t) := (hBa.cell (p := ⟨ga, k * 7 + 3, none⟩) hga).trans e3; have qa4 : wa.cell? ⟨ga, k * 7 + 4, none⟩ = some (.int .i64 p.l) := (hBa.cell (p := ⟨ga, k * 7 + 4, none⟩) hga).trans e4; have qa5 : wa.cell? ⟨ga, k * 7 + 5, none⟩ = some (.int .i64 p.b) := (hBa.cell (p := ⟨ga, k * 7 + 5, none⟩) hga).trans e5; have qa6 : wa.cell? ⟨ga, k * 7 + 6, none⟩ = some (.int .i64 p.q) := (hBa.cell (p := ⟨ga, k * 7 + 6, none⟩) hga).trans e6; have ba0 : wa.cell? ⟨w.heap.size, 0, none⟩ = some (.int .i64 cx) := (hBa.cell (p := ⟨w.heap.size, 0, none⟩) hwz).trans be0; have ba1 : wa.cell? ⟨w.heap.size, 1, none⟩ = some (.int .i64 cy) := (hBa.cell (p := ⟨w.heap.size, 1, none⟩) hwz).trans be1; clear hb))
                    go_wp2
                    exact ⟨⟨k + 1, by go_num, by omega, by with_reducible (repeat' first | assumption | exact Below.refl _ _ | refine Below.drew ?_ | refine bdrewN ?_ _ | refine Below.setCell ?_ (by first | exact Nat.le_refl _ | (simp; done) | (simp; omega) | omega) _ | refine Below.alloc ?_ (by first | exact Nat.le_refl _ | (simp; done) | (simp; omega) | omega) _)⟩, by simp [intOf] <;> omega⟩
            · have hlk' : ¬ (k : Int) < m := by omega
              have hF : Below w.heap.size w wr := hG.trans (hB.mono (Nat.le_of_lt hwz))
              go_wp2
              go_ret
              exact ⟨rfl, by with_reducible (repeat' first | assumption | exact Below.refl _ _ | refine Below.drew ?_ | refine bdrewN ?_ _ | refine Below.setCell ?_ (by first | exact Nat.le_refl _ | (simp; done) | (simp; omega) | omega) _ | refine Below.alloc ?_ (by first | exact Nat.le_refl _ | (simp; done) | (simp; omega) | omega) _)⟩
end Go.Proofs.Ytpblkidbaheboaa
