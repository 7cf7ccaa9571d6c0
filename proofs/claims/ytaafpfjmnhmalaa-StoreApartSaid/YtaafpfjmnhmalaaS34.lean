/- StoreApart's walk. -/
import Derived.Test.YtaafpfjmnhmalaaS31
namespace Go.Proofs.Ytaafpfjmnhmalaa
open Go.RowKit
set_option linter.all false
/-- Two stores, each beside the document's, that share no memory. -/
def Tw (w0 : Nat) (W : World) (ka kb : Bx) : Prop := ∃ (Fa : Nat → Prop) (Ra : List Im) (Fb : Nat → Prop) (Rb : List Im), BW W Fa ka (itL ka Ra) Ra ∧ rngR Ra ∧ BW W Fb kb (itL kb Rb) Rb ∧ rngR Rb ∧ (∀ b, Fa b → ¬ Fb b) ∧ (∀ b, Fa b → w0 ≤ b) ∧ (∀ b, Fb b → w0 ≤ b)
theorem Tw.swap {w0 : Nat} {W : World} {ka kb : Bx} (h : Tw w0 W ka kb) : Tw w0 W kb ka := by
  obtain ⟨Fa, Ra, Fb, Rb, h1, h2, h3, h4, h5, h6, h7⟩ := h
  exact ⟨Fb, Rb, Fa, Ra, h3, h4, h1, h2, fun b q r => h5 b r q, h7, h6⟩
theorem Tw.keep {w0 : Nat} {W w' : World} {ka kb : Bx} (h : Tw w0 W ka kb) (hb : Below W.heap.size W w') : Tw w0 w' ka kb := by
  obtain ⟨Fa, Ra, Fb, Rb, h1, h2, h3, h4, h5⟩ := h
  exact ⟨Fa, Ra, Fb, Rb, h1.keep hb, h2, h3.keep hb, h4, h5⟩
theorem tw_a (w0 : Nat) (W : World) (ka kb : Bx) (d : Dd) (hd : d.ok) (h : Tw w0 W ka kb) (hw : w0 ≤ W.heap.size) : Calls Try.prog 9 #[.pointer (some ⟨ka.q, 0, none⟩), .agg d.cells] W fun e w' => e = .returned (.bool true) ∧ Tw w0 w' ka kb ∧ Below w0 W w' := by
  obtain ⟨Fa, Ra, Fb, Rb, h1, h2, h3, h4, h5, h6, h7⟩ := h
  refine (does_any W Fa ka Ra d hd h1 h2).mono ?_
  rintro e w' ⟨rfl, R', ⟨F', b1, b2, b3⟩, b4⟩
  refine ⟨rfl, ⟨F', R', Fb, Rb, b1, b4, h3.mut b2 (fun b q r => h5 b r q), h4, fun b q r => ?_, fun b q => ?_, h7⟩, b2.to_below hw h6⟩
  · rcases b3 b q with s | s
    · exact h5 b s r
    · have := h3.fl b r; omega
  · rcases b3 b q with s | s
    · exact h6 b s
    · omega
theorem tw_b (w0 : Nat) (W : World) (ka kb : Bx) (d : Dd) (hd : d.ok) (h : Tw w0 W ka kb) (hw : w0 ≤ W.heap.size) : Calls Try.prog 9 #[.pointer (some ⟨kb.q, 0, none⟩), .agg d.cells] W fun e w' => e = .returned (.bool true) ∧ Tw w0 w' ka kb ∧ Below w0 W w' :=
  (tw_a w0 W kb ka d hd h.swap hw).mono (by rintro e w' ⟨rfl, h1, h2⟩; exact ⟨rfl, h1.swap, h2⟩)
theorem tw_begin (W : World) (ka : Bx) (w0 : Nat) (F : Nat → Prop) (h : BW W F ka (itL ka []) []) (hF : ∀ b, F b → w0 ≤ b) (hw : w0 ≤ W.heap.size) : Calls Try.prog 8 #[] W fun e w' => ∃ kb : Bx, e = .returned (.pointer (some ⟨kb.q, 0, none⟩)) ∧ Tw w0 w' ka kb ∧ Below W.heap.size W w' :=
  (begin_any W).mono (by
    rintro e w' ⟨kb, rfl, hb, hB⟩
    exact ⟨kb, rfl, ⟨F, [], _, [], h.keep hB, (fun m hm => by cases hm), hb, (fun m hm => by cases hm), fun b q r => by have := h.fl b q; have := r.1; omega, hF, fun b q => Nat.le_trans hw q.1⟩, hB⟩)
/-- What is read of one. -/
theorem BW.three {W : World} {F : Nat → Prop} {k : Bx} {R : List Im} (h : BW W F k (itL k R) R) : ∃ q cap, W.cell? ⟨k.q, 0, none⟩ = some (.pointer (some ⟨k.s, 0, none⟩)) ∧ W.cell? ⟨k.q, 1, none⟩ = some (.pointer (some ⟨k.y, 0, none⟩)) ∧ W.cell? ⟨k.y, 0, none⟩ = some (.slice q R.length cap) ∧ k.q < W.heap.size ∧ k.y < W.heap.size := by
  obtain ⟨q, cap, e⟩ := h.doc
  exact ⟨q, cap, h.q.cell 0, h.q.cell 1, e, h.q.lt, h.fl _ h.fy.1⟩
set_option maxRecDepth 100000 in
set_option maxHeartbeats 8000000 in
theorem apart_walk (w : World) (v : Value) (l : List Dd) (v' : Value) (l' : List Dd) (hv : CV Dd.cells 8 w v l) (hI : ∀ x ∈ l, x.ok) (hv' : CV Dd.cells 8 w v' l') (hI' : ∀ x ∈ l', x.ok) : Calls Try.prog 6 #[v, v'] w fun e w' => e = .returned (.bool true) ∧ Below w.heap.size w w' := by
  have mixed : Try.prog.follows .mixedOrders = true := by kernel_rfl
  obtain ⟨p, cap, rfl, hcap, hmx, hp0⟩ := hv
  have hp : Hid _ := hp0
  clear hp0
  obtain ⟨n, hn⟩ : ∃ n, n = l.length := ⟨_, rfl⟩
  rw [← hn] at hcap hmx hp ⊢
  have HN : Hid (n = l.length) := hn
  clear hn
  have HI : Hid (∀ x ∈ l, x.ok) := hI
  obtain ⟨p', cap', rfl, hcap', hmx', hp0'⟩ := hv'
  have hp' : Hid _ := hp0'
  clear hp0' hI
  obtain ⟨m, hm⟩ : ∃ m, m = l'.length := ⟨_, rfl⟩
  rw [← hm] at hcap' hmx' hp' ⊢
  have HM : Hid (m = l'.length) := hm
  clear hm
  have HI' : Hid (∀ x ∈ l', x.ok) := hI'
  clear hI'
  have HB1 : Hid (∀ W, Calls Try.prog 8 #[] W fun e w' => ∃ k : Bx, e = .returned (.pointer (some ⟨k.q, 0, none⟩)) ∧ BW w' (fun b => W.heap.size ≤ b ∧ b < w'.heap.size) k [] [] ∧ Below W.heap.size W w') := begin_any
  have HB2 : Hid (∀ W ka F, BW W F ka (itL ka []) [] → (∀ b, F b → w.heap.size ≤ b) → w.heap.size ≤ W.heap.size → Calls Try.prog 8 #[] W fun e w' => ∃ kb : Bx, e = .returned (.pointer (some ⟨kb.q, 0, none⟩)) ∧ Tw w.heap.size w' ka kb ∧ Below W.heap.size W w') := fun W ka F h1 h2 h3 => tw_begin W ka _ F h1 h2 h3
  have t1 : True := trivial
  have t2 : True := trivial
  go_enter Try.func6, Try.ntmps6
  go_wp2_with (first
    | (go_at_call 8; clear t1; refine (HB1.out _).mono ?_; rintro e w1 ⟨ka, rfl, hb, hB1⟩; have HX : Hid (BW w1 (fun b => w.heap.size ≤ b ∧ b < w1.heap.size) ka (itL ka []) []) := hb; have hz1 := hB1.size; clear hb)
    | (go_at_call 8; clear t2; refine (HB2.out _ ka _ HX.out (fun b q => q.1) hz1).mono ?_; rintro e w2 ⟨kb, rfl, hT, hbb⟩; have HT : Hid (Tw w.heap.size w2 ka kb) := hT; have hB2 := bup hB1 hbb; obtain ⟨Fa, Ra, Fb, Rb, x1, _, x2, _⟩ := hT; have q0a : w2.cell? ⟨ka.q, 0, none⟩ = some (.pointer (some ⟨ka.s, 0, none⟩)) := x1.q.cell 0; have q0b : w2.cell? ⟨kb.q, 0, none⟩ = some (.pointer (some ⟨kb.s, 0, none⟩)) := x2.q.cell 0; clear x1 x2 hbb))
  clear HB1 HB2 HX q0a q0b hB1 hz1
  have HDa : Hid (∀ W (d : Dd), d.ok → Tw w.heap.size W ka kb → w.heap.size ≤ W.heap.size → Calls Try.prog 9 #[.pointer (some ⟨ka.q, 0, none⟩), .agg #[.int .i64 d.kd, .int .i64 d.r, .int .i64 d.c, .int .i64 d.t, .int .i64 d.l, .int .i64 d.b, .int .i64 d.rr, .int .i64 d.wh]] W fun e w' => e = .returned (.bool true) ∧ Tw w.heap.size w' ka kb ∧ Below w.heap.size W w') := fun W d h1 h2 h3 => tw_a _ W ka kb d h1 h2 h3
  have HDb : Hid (∀ W (d : Dd), d.ok → Tw w.heap.size W ka kb → w.heap.size ≤ W.heap.size → Calls Try.prog 9 #[.pointer (some ⟨kb.q, 0, none⟩), .agg #[.int .i64 d.kd, .int .i64 d.r, .int .i64 d.c, .int .i64 d.t, .int .i64 d.l, .int .i64 d.b, .int .i64 d.rr, .int .i64 d.wh]] W fun e w' => e = .returned (.bool true) ∧ Tw w.heap.size w' ka kb ∧ Below w.heap.size W w') := fun W d h1 h2 h3 => tw_b _ W ka kb d h1 h2 h3
  have HA : Hid (∀ i, i < n → ∃ (ab ao : Nat) (x : Dd), p = some ⟨ab, ao, none⟩ ∧ ab < w.heap.size ∧ x.ok ∧ (∀ j u, (Dd.cells x)[j]? = some u → w.cell? ⟨ab, ao + i * 8 + j, none⟩ = some u)) := (show _ from fun i hi => by
    obtain ⟨ab, ao, e, hab, HA⟩ := hp.out (by omega)
    obtain ⟨x, hx⟩ : ∃ x, l[i]? = some x := ⟨_, List.getElem?_eq_getElem (by rw [← HN.out]; omega)⟩
    exact ⟨ab, ao, x, e, hab, HI.out x (List.mem_of_getElem? hx), fun j u hu => (HA i _ hx j (by have := (Array.getElem?_eq_some_iff.1 hu).1; exact this)).trans hu⟩)
  have HA' : Hid (∀ i, i < m → ∃ (ab ao : Nat) (x : Dd), p' = some ⟨ab, ao, none⟩ ∧ ab < w.heap.size ∧ x.ok ∧ (∀ j u, (Dd.cells x)[j]? = some u → w.cell? ⟨ab, ao + i * 8 + j, none⟩ = some u)) := (show _ from fun i hi => by
    obtain ⟨ab, ao, e, hab, HA⟩ := hp'.out (by omega)
    obtain ⟨x, hx⟩ : ∃ x, l'[i]? = some x := ⟨_, List.getElem?_eq_getElem (by rw [← HM.out]; omega)⟩
    exact ⟨ab, ao, x, e, hab, HI'.out x (List.mem_of_getElem? hx), fun j u hu => (HA i _ hx j (by have := (Array.getElem?_eq_some_iff.1 hu).1; exact this)).trans hu⟩)
  clear hp hp' HN HM HI HI'
  go_loopw [7, 8, 9] (fun u _ _ w' => ∃ (i : Nat), u = .int .i64 i ∧ i ≤ n + m ∧ Hid (Tw w.heap.size w' ka kb) ∧ Below w.heap.size w w') (fun u _ _ _ => n + m - (intOf u).toNat)
  case atStart => exact ⟨0, rfl, by omega, HT, hB2⟩
  case round =>
    obtain ⟨i, rfl, hi, HTr, hB⟩ := hrel
    clear HT hB2
    have hwz := hB.size
    by_cases h1 : i < n
    · obtain ⟨ab, ao, x, rfl, hab, hxo, hcl⟩ := HA.out i h1
      have hxo : Hid x.ok := hxo
      have hcell : ∀ j u, (Dd.cells x)[j]? = some u → wr.cell? ⟨ab, ao + i * 8 + j, none⟩ = some u := fun j u hu => (hB.cell (p := ⟨ab, ao + i * 8 + j, none⟩) hab).trans (hcl j u hu)
      have h1' : (i : Int) < n := by omega
      have y0 : wr.cell? ⟨ab, ao + i * 8, none⟩ = some (.int .i64 x.kd) := hcell 0 _ rfl
      have y1 : wr.cell? ⟨ab, ao + i * 8 + 1, none⟩ = some (.int .i64 x.r) := hcell 1 _ rfl
      have y2 : wr.cell? ⟨ab, ao + i * 8 + 2, none⟩ = some (.int .i64 x.c) := hcell 2 _ rfl
      have y3 : wr.cell? ⟨ab, ao + i * 8 + 3, none⟩ = some (.int .i64 x.t) := hcell 3 _ rfl
      have y4 : wr.cell? ⟨ab, ao + i * 8 + 4, none⟩ = some (.int .i64 x.l) := hcell 4 _ rfl
      have y5 : wr.cell? ⟨ab, ao + i * 8 + 5, none⟩ = some (.int .i64 x.b) := hcell 5 _ rfl
      have y6 : wr.cell? ⟨ab, ao + i * 8 + 6, none⟩ = some (.int .i64 x.rr) := hcell 6 _ rfl
      have y7 : wr.cell? ⟨ab, ao + i * 8 + 7, none⟩ = some (.int .i64 x.wh) := hcell 7 _ rfl
      clear hcl hcell
      by_cases h2 : i < m
      · have h2' : (i : Int) < m := by omega
        obtain ⟨ab', ao', x', rfl, hab', hxo', hcl'⟩ := HA'.out i h2
        have hxo' : Hid x'.ok := hxo'
        have hcl' : Hid (∀ j u, (Dd.cells x')[j]? = some u → w.cell? ⟨ab', ao' + i * 8 + j, none⟩ = some u) := hcl'
        have t3 : True := trivial
        have t4 : True := trivial
        go_wp2_with (first
          | (go_at_call 9; clear t3; refine (HDa.out _ x hxo.out HTr.out hwz).mono ?_; rintro e w2 ⟨rfl, hT2, hb2⟩; have HT2 : Hid (Tw w.heap.size w2 ka kb) := hT2; have hB2 := hB.trans hb2; have hz2 := hB2.size; have hcell : ∀ j u, (Dd.cells x')[j]? = some u → w2.cell? ⟨ab', ao' + i * 8 + j, none⟩ = some u := fun j u hu => (hB2.cell (p := ⟨ab', ao' + i * 8 + j, none⟩) hab').trans (hcl'.out j u hu); have z0 : w2.cell? ⟨ab', ao' + i * 8, none⟩ = some (.int .i64 x'.kd) := hcell 0 _ rfl; have z1 : w2.cell? ⟨ab', ao' + i * 8 + 1, none⟩ = some (.int .i64 x'.r) := hcell 1 _ rfl; have z2 : w2.cell? ⟨ab', ao' + i * 8 + 2, none⟩ = some (.int .i64 x'.c) := hcell 2 _ rfl; have z3 : w2.cell? ⟨ab', ao' + i * 8 + 3, none⟩ = some (.int .i64 x'.t) := hcell 3 _ rfl; have z4 : w2.cell? ⟨ab', ao' + i * 8 + 4, none⟩ = some (.int .i64 x'.l) := hcell 4 _ rfl; have z5 : w2.cell? ⟨ab', ao' + i * 8 + 5, none⟩ = some (.int .i64 x'.b) := hcell 5 _ rfl; have z6 : w2.cell? ⟨ab', ao' + i * 8 + 6, none⟩ = some (.int .i64 x'.rr) := hcell 6 _ rfl; have z7 : w2.cell? ⟨ab', ao' + i * 8 + 7, none⟩ = some (.int .i64 x'.wh) := hcell 7 _ rfl; clear hT2 hb2 hcell y0 y1 y2 y3 y4 y5 y6 y7)
          | (go_at_call 9; clear t4; refine (HDb.out _ x' hxo'.out HT2.out hz2).mono ?_; rintro e w3 ⟨rfl, hT3, hb3⟩; have HT3 : Hid (Tw w.heap.size w3 ka kb) := hT3; have hB3 := hB2.trans hb3; clear hT3 hb3))
        exact ⟨⟨i + 1, by go_num, by omega, HT3, hB3⟩, by simp [intOf]; omega⟩
      · have h2' : ¬ (i : Int) < m := by omega
        go_wp2_with ((go_at_call 9; refine (HDa.out _ x hxo.out HTr.out hwz).mono ?_; rintro e w2 ⟨rfl, hT2, hb2⟩; have HT2 : Hid (Tw w.heap.size w2 ka kb) := hT2; have hB2 := hB.trans hb2; clear hT2 hb2))
        exact ⟨⟨i + 1, by go_num, by omega, HT2, hB2⟩, by simp [intOf]; omega⟩
    · have h1' : ¬ (i : Int) < n := by omega
      by_cases h2 : i < m
      · have h2' : (i : Int) < m := by omega
        obtain ⟨ab', ao', x', rfl, hab', hxo', hcl'⟩ := HA'.out i h2
        have hxo' : Hid x'.ok := hxo'
        have hcell : ∀ j u, (Dd.cells x')[j]? = some u → wr.cell? ⟨ab', ao' + i * 8 + j, none⟩ = some u := fun j u hu => (hB.cell (p := ⟨ab', ao' + i * 8 + j, none⟩) hab').trans (hcl' j u hu)
        have z0 : wr.cell? ⟨ab', ao' + i * 8, none⟩ = some (.int .i64 x'.kd) := hcell 0 _ rfl
        have z1 : wr.cell? ⟨ab', ao' + i * 8 + 1, none⟩ = some (.int .i64 x'.r) := hcell 1 _ rfl
        have z2 : wr.cell? ⟨ab', ao' + i * 8 + 2, none⟩ = some (.int .i64 x'.c) := hcell 2 _ rfl
        have z3 : wr.cell? ⟨ab', ao' + i * 8 + 3, none⟩ = some (.int .i64 x'.t) := hcell 3 _ rfl
        have z4 : wr.cell? ⟨ab', ao' + i * 8 + 4, none⟩ = some (.int .i64 x'.l) := hcell 4 _ rfl
        have z5 : wr.cell? ⟨ab', ao' + i * 8 + 5, none⟩ = some (.int .i64 x'.b) := hcell 5 _ rfl
        have z6 : wr.cell? ⟨ab', ao' + i * 8 + 6, none⟩ = some (.int .i64 x'.rr) := hcell 6 _ rfl
        have z7 : wr.cell? ⟨ab', ao' + i * 8 + 7, none⟩ = some (.int .i64 x'.wh) := hcell 7 _ rfl
        clear hcl' hcell
        go_wp2_with ((go_at_call 9; refine (HDb.out _ x' hxo'.out HTr.out hwz).mono ?_; rintro e w3 ⟨rfl, hT3, hb3⟩; have HT3 : Hid (Tw w.heap.size w3 ka kb) := hT3; have hB3 := hB.trans hb3; clear hT3 hb3))
        exact ⟨⟨i + 1, by go_num, by omega, HT3, hB3⟩, by simp [intOf]; omega⟩
      · have h2' : ¬ (i : Int) < m := by omega
        clear HDa HDb HA HA'
        obtain ⟨Fa, Ra, Fb, Rb, x1, _, x2, _⟩ := HTr.out
        obtain ⟨qa, ca, a0, a1, a2, la, ma⟩ := x1.three
        obtain ⟨qb, cb, b0, b1, b2, lb, mb⟩ := x2.three
        have HCa : Hid (∀ W, Below wr.heap.size wr W → Calls Try.prog 10 #[.pointer (some ⟨ka.s, 0, none⟩)] W fun e w' => e = .returned (.int .i64 Ra.length) ∧ Below W.heap.size W w') := fun W h => (bx_count W _ _ _ _ (x1.keep h)).mono (by rintro e w' ⟨rfl, rfl⟩; exact ⟨by rw [it_len], Below.refl _ _⟩)
        have HCb : Hid (∀ W, Below wr.heap.size wr W → Calls Try.prog 10 #[.pointer (some ⟨kb.s, 0, none⟩)] W fun e w' => e = .returned (.int .i64 Rb.length) ∧ Below W.heap.size W w') := fun W h => (bx_count W _ _ _ _ (x2.keep h)).mono (by rintro e w' ⟨rfl, rfl⟩; exact ⟨by rw [it_len], Below.refl _ _⟩)
        clear x1 x2 HTr
        generalize Ra.length = na at *
        generalize Rb.length = nb at *
        go_wp2
        have t5 : True := trivial
        go_region_held3 (fun w' => w'.cell? ⟨ka.q, 0, none⟩ = some (.pointer (some ⟨ka.s, 0, none⟩)) ∧ w'.cell? ⟨ka.q, 1, none⟩ = some (.pointer (some ⟨ka.y, 0, none⟩)) ∧ w'.cell? ⟨ka.y, 0, none⟩ = some (.slice qa na ca) ∧ w'.cell? ⟨kb.q, 0, none⟩ = some (.pointer (some ⟨kb.s, 0, none⟩)) ∧ w'.cell? ⟨kb.q, 1, none⟩ = some (.pointer (some ⟨kb.y, 0, none⟩)) ∧ w'.cell? ⟨kb.y, 0, none⟩ = some (.slice qb nb cb)) ((repeat' apply And.intro) <;> (first | (go_keep; done) | (go_simp; done))) (first
          | (go_at_call 10; clear t5; refine (HCa.out _ (by with_reducible (repeat' first | assumption | exact Below.refl _ _ | refine Below.drew ?_ | refine bdrewN ?_ _ | refine Below.setCell ?_ (by first | exact Nat.le_refl _ | (simp; done) | (simp; omega) | omega) _ | refine Below.alloc ?_ (by first | exact Nat.le_refl _ | (simp; done) | (simp; omega) | omega) _))).mono ?_; rintro e wa ⟨rfl, hba⟩; have hBa : Below wr.heap.size wr wa := bup (by with_reducible (repeat' first | assumption | exact Below.refl _ _ | refine Below.drew ?_ | refine bdrewN ?_ _ | refine Below.setCell ?_ (by first | exact Nat.le_refl _ | (simp; done) | (simp; omega) | omega) _ | refine Below.alloc ?_ (by first | exact Nat.le_refl _ | (simp; done) | (simp; omega) | omega) _)) hba; have a0a := (hBa.cell (p := ⟨ka.q, 0, none⟩) la).trans a0; have a1a := (hBa.cell (p := ⟨ka.q, 1, none⟩) la).trans a1; have a2a := (hBa.cell (p := ⟨ka.y, 0, none⟩) ma).trans a2; have b0a := (hBa.cell (p := ⟨kb.q, 0, none⟩) lb).trans b0; have b1a := (hBa.cell (p := ⟨kb.q, 1, none⟩) lb).trans b1; have b2a := (hBa.cell (p := ⟨kb.y, 0, none⟩) mb).trans b2)
          | (go_at_call 10; refine (HCb.out _ (bup hBa (by with_reducible (repeat' first | assumption | exact Below.refl _ _ | refine Below.drew ?_ | refine bdrewN ?_ _ | refine Below.setCell ?_ (by first | exact Nat.le_refl _ | (simp; done) | (simp; omega) | omega) _ | refine Below.alloc ?_ (by first | exact Nat.le_refl _ | (simp; done) | (simp; omega) | omega) _)))).mono ?_; rintro e wb ⟨rfl, hbb⟩; have hBb : Below wr.heap.size wr wb := bup (bup hBa (by with_reducible (repeat' first | assumption | exact Below.refl _ _ | refine Below.drew ?_ | refine bdrewN ?_ _ | refine Below.setCell ?_ (by first | exact Nat.le_refl _ | (simp; done) | (simp; omega) | omega) _ | refine Below.alloc ?_ (by first | exact Nat.le_refl _ | (simp; done) | (simp; omega) | omega) _))) hbb; have a0b := (hBb.cell (p := ⟨ka.q, 0, none⟩) la).trans a0; have a1b := (hBb.cell (p := ⟨ka.q, 1, none⟩) la).trans a1; have a2b := (hBb.cell (p := ⟨ka.y, 0, none⟩) ma).trans a2; have b0b := (hBb.cell (p := ⟨kb.q, 0, none⟩) lb).trans b0; have b1b := (hBb.cell (p := ⟨kb.q, 1, none⟩) lb).trans b1; have b2b := (hBb.cell (p := ⟨kb.y, 0, none⟩) mb).trans b2)
          | (go_at_call 12; refine (lives_any _).mono ?_; rintro e wc ⟨rfl, hbc⟩; have hBc : Below wr.heap.size wr wc := bup (bup hBb (by with_reducible (repeat' first | assumption | exact Below.refl _ _ | refine Below.drew ?_ | refine bdrewN ?_ _ | refine Below.setCell ?_ (by first | exact Nat.le_refl _ | (simp; done) | (simp; omega) | omega) _ | refine Below.alloc ?_ (by first | exact Nat.le_refl _ | (simp; done) | (simp; omega) | omega) _))) hbc; have a0c := (hBc.cell (p := ⟨ka.q, 0, none⟩) la).trans a0; have a1c := (hBc.cell (p := ⟨ka.q, 1, none⟩) la).trans a1; have a2c := (hBc.cell (p := ⟨ka.y, 0, none⟩) ma).trans a2; have b0c := (hBc.cell (p := ⟨kb.q, 0, none⟩) lb).trans b0; have b1c := (hBc.cell (p := ⟨kb.q, 1, none⟩) lb).trans b1; have b2c := (hBc.cell (p := ⟨kb.y, 0, none⟩) mb).trans b2))
        go_wp2
        go_ret
        exact ⟨rfl, bup hB hBc⟩
end Go.Proofs.Ytaafpfjmnhmalaa
