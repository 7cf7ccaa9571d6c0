/- StorePlays's walk. -/
import Derived.Test.YtaafpfjmnhmalaaS30
import Derived.Test.YtaafpfjmnhmalaaS28
namespace Go.Proofs.Ytaafpfjmnhmalaa
open Go.RowKit
set_option linter.all false
theorem GOut.step {w0 : Nat} {W w' : World} {F : Nat → Prop} {k : Bx} (h : GOut W F k w') (hF : ∀ b, F b → w0 ≤ b) (hw : w0 ≤ W.heap.size) : ∃ F' R', BW w' F' k (itL k R') R' ∧ rngR R' ∧ (∀ b, F' b → w0 ≤ b) ∧ Below w0 W w' := by
  obtain ⟨R', ⟨F', h1, h2, h3⟩, h4⟩ := h
  refine ⟨F', R', h1, h4, fun b q => ?_, h2.to_below hw hF⟩
  rcases h3 b q with r | r
  · exact hF b r
  · omega
theorem BW.doc {w : World} {F : Nat → Prop} {k : Bx} {L : List It} {R : List Im} (h : BW w F k L R) : ∃ q cap, w.cell? ⟨k.y, 0, none⟩ = some (.slice q R.length cap) := by
  obtain ⟨D, v, _, s2, s3, _, _⟩ := h.st
  have e := s2.cell 0
  rcases s3.two with ⟨rfl, rfl⟩ | ⟨g, cap, rfl, _⟩
  · exact ⟨none, 0, e⟩
  · exact ⟨_, cap, e⟩
set_option maxRecDepth 100000 in
set_option maxHeartbeats 8000000 in
theorem plays_walk (w : World) (v : Value) (l : List Dd) (hv : CV Dd.cells 8 w v l) (hI : ∀ x ∈ l, x.ok) : Calls Try.prog 3 #[v] w fun e w' => e = .returned (.bool true) ∧ Below w.heap.size w w' := by
  have mixed : Try.prog.follows .mixedOrders = true := by kernel_rfl
  obtain ⟨p, cap, rfl, hcap, hmx, hp0⟩ := hv
  have hp : Hid _ := hp0
  clear hp0
  obtain ⟨n, hn⟩ : ∃ n, n = l.length := ⟨_, rfl⟩
  rw [← hn] at hcap hmx hp ⊢
  have HN : Hid (n = l.length) := hn
  clear hn
  have HI : Hid (∀ x ∈ l, x.ok) := hI
  clear hI
  have HBg : Hid (∀ W, Calls Try.prog 8 #[] W fun e w' => ∃ k : Bx, e = .returned (.pointer (some ⟨k.q, 0, none⟩)) ∧ BW w' (fun b => W.heap.size ≤ b ∧ b < w'.heap.size) k [] [] ∧ Below W.heap.size W w') := begin_any
  go_enter Try.func3, Try.ntmps3
  go_wp2_with (go_at_call 8; refine (HBg.out _).mono ?_; rintro e w1 ⟨k, rfl, hb, hB1⟩; have HB1 : Hid (BW w1 (fun b => w.heap.size ≤ b ∧ b < w1.heap.size) k (itL k []) []) := hb; have q0 : w1.cell? ⟨k.q, 0, none⟩ = some (.pointer (some ⟨k.s, 0, none⟩)) := hb.q.cell 0; have ql := hb.q.lt; clear hb)
  clear HBg
  have HD : Hid (∀ W F R (d : Dd), d.ok → BW W F k (itL k R) R → rngR R → Calls Try.prog 9 #[.pointer (some ⟨k.q, 0, none⟩), .agg #[.int .i64 d.kd, .int .i64 d.r, .int .i64 d.c, .int .i64 d.t, .int .i64 d.l, .int .i64 d.b, .int .i64 d.rr, .int .i64 d.wh]] W fun e w' => e = .returned (.bool true) ∧ GOut W F k w') := fun W F R d h1 h2 h3 => does_any W F k R d h1 h2 h3
  have HC : Hid (∀ W F R, BW W F k (itL k R) R → Calls Try.prog 10 #[.pointer (some ⟨k.s, 0, none⟩)] W fun e w' => e = .returned (.int .i64 R.length) ∧ w' = W) := fun W F R h => by have := bx_count W F k _ R h; rw [it_len] at this; exact this
  have HW : Hid (∀ W F R, BW W F k (itL k R) R → Calls Try.prog 11 #[.pointer (some ⟨k.q, 0, none⟩), .agg #[.int .i64 1, .int .i64 1, .int .i64 4096, .int .i64 256]] W fun e w' => e = .returned (.bool true) ∧ Below W.heap.size W w') := fun W F R h => walks_any W F k R 1 1 4096 256 h i64_s i64_s i64_s i64_s h.ins
  clear q0 ql
  go_loopw [4, 5] (fun u _ w' => ∃ (i : Nat) (F : Nat → Prop) (R : List Im), u = .int .i64 i ∧ i ≤ n ∧ Hid (BW w' F k (itL k R) R) ∧ Hid (rngR R) ∧ Hid (∀ b, F b → w.heap.size ≤ b) ∧ Below w.heap.size w w') (fun u _ _ => n - (intOf u).toNat)
  case atStart => exact ⟨0, _, [], rfl, by omega, HB1, (show rngR [] from fun m hm => by cases hm), (show Hid _ from fun b q => q.1), by with_reducible (repeat' first | assumption | exact Below.refl _ _ | refine Below.drew ?_ | refine bdrewN ?_ _ | refine Below.setCell ?_ (by first | exact Nat.le_refl _ | (simp; done) | (simp; omega) | omega) _ | refine Below.alloc ?_ (by first | exact Nat.le_refl _ | (simp; done) | (simp; omega) | omega) _)⟩
  case round =>
    obtain ⟨i, F, R, rfl, hi, HB, hg, hF, hB⟩ := hrel
    clear HB1 hB1
    by_cases hlt : i < n
    · have hn0 : 0 < l.length := by rw [← HN.out]; omega
      obtain ⟨ab, ao, rfl, hab, HA⟩ := hp.out (by rw [← HN.out] at hn0; exact hn0)
      have hlt' : (i : Int) < n := by omega
      obtain ⟨x, hx⟩ : ∃ x, l[i]? = some x := ⟨_, List.getElem?_eq_getElem (by rw [← HN.out]; omega)⟩
      have hxo : Hid x.ok := HI.out x (List.mem_of_getElem? hx)
      have ca := HA i _ hx
      have hcell : ∀ j u, (Dd.cells x)[j]? = some u → wr.cell? ⟨ab, ao + i * 8 + j, none⟩ = some u := fun j u hu => (hB.cell (p := ⟨ab, ao + i * 8 + j, none⟩) hab).trans ((ca j (by have := (Array.getElem?_eq_some_iff.1 hu).1; exact this)).trans hu)
      have y0 : wr.cell? ⟨ab, ao + i * 8, none⟩ = some (.int .i64 x.kd) := hcell 0 _ rfl
      have y1 : wr.cell? ⟨ab, ao + i * 8 + 1, none⟩ = some (.int .i64 x.r) := hcell 1 _ rfl
      have y2 : wr.cell? ⟨ab, ao + i * 8 + 2, none⟩ = some (.int .i64 x.c) := hcell 2 _ rfl
      have y3 : wr.cell? ⟨ab, ao + i * 8 + 3, none⟩ = some (.int .i64 x.t) := hcell 3 _ rfl
      have y4 : wr.cell? ⟨ab, ao + i * 8 + 4, none⟩ = some (.int .i64 x.l) := hcell 4 _ rfl
      have y5 : wr.cell? ⟨ab, ao + i * 8 + 5, none⟩ = some (.int .i64 x.b) := hcell 5 _ rfl
      have y6 : wr.cell? ⟨ab, ao + i * 8 + 6, none⟩ = some (.int .i64 x.rr) := hcell 6 _ rfl
      have y7 : wr.cell? ⟨ab, ao + i * 8 + 7, none⟩ = some (.int .i64 x.wh) := hcell 7 _ rfl
      have hwz := hB.size
      clear hx ca HA hcell
      go_wp2_with (go_at_call 9; refine (HD.out _ _ _ x hxo.out HB.out hg.out).mono ?_; rintro e w2 ⟨rfl, hG⟩; obtain ⟨F2, R2, b1, b2, b3, b4⟩ := GOut.step hG hF.out hwz; have HB2 : Hid (BW w2 F2 k (itL k R2) R2) := b1; have hg2 : Hid (rngR R2) := b2; have hF2 : Hid (∀ b, F2 b → w.heap.size ≤ b) := b3; have hB2 := hB.trans b4; have q0 : w2.cell? ⟨k.q, 0, none⟩ = some (.pointer (some ⟨k.s, 0, none⟩)) := b1.q.cell 0; have q1 : w2.cell? ⟨k.q, 1, none⟩ = some (.pointer (some ⟨k.y, 0, none⟩)) := b1.q.cell 1; obtain ⟨dq, dc, d0⟩ := b1.doc; clear hG b1 b2 b3 b4)
      clear y0 y1 y2 y3 y4 y5 y6 y7 HB hg hF
      go_quiet ((go_at_call 10; exact Calls.quiet_of_same (HC.out _ _ _ (HB2.out.keep (by with_reducible (repeat' first | assumption | exact Below.refl _ _ | refine Below.drew ?_ | refine bdrewN ?_ _ | refine Below.setCell ?_ (by first | exact Nat.le_refl _ | (simp; done) | (simp; omega) | omega) _ | refine Below.alloc ?_ (by first | exact Nat.le_refl _ | (simp; done) | (simp; omega) | omega) _))))))
      go_wp2
      exact ⟨⟨i + 1, F2, R2, by go_num, by omega, (show Hid _ from HB2.out.keep (by with_reducible (repeat' first | assumption | exact Below.refl _ _ | refine Below.drew ?_ | refine bdrewN ?_ _ | refine Below.setCell ?_ (by first | exact Nat.le_refl _ | (simp; done) | (simp; omega) | omega) _ | refine Below.alloc ?_ (by first | exact Nat.le_refl _ | (simp; done) | (simp; omega) | omega) _))), hg2, hF2, by with_reducible (repeat' first | assumption | exact Below.refl _ _ | refine Below.drew ?_ | refine bdrewN ?_ _ | refine Below.setCell ?_ (by first | exact Nat.le_refl _ | (simp; done) | (simp; omega) | omega) _ | refine Below.alloc ?_ (by first | exact Nat.le_refl _ | (simp; done) | (simp; omega) | omega) _)⟩, by simp [intOf]; omega⟩
    · have hin : i = n := by omega
      subst hin
      have hwz := hB.size
      clear HD HC hp
      go_wp2_with (first
        | (go_at_call 11; refine (HW.out _ _ _ HB.out).mono ?_; rintro e w2 ⟨rfl, hb2⟩; have hB2 := bup hB hb2; clear hb2)
        | (go_at_call 12; refine (lives_any _).mono ?_; rintro e w3 ⟨rfl, hb3⟩; have hB3 := bup hB2 hb3; clear hb3))
      go_ret
      exact ⟨rfl, hB3⟩
end Go.Proofs.Ytaafpfjmnhmalaa
