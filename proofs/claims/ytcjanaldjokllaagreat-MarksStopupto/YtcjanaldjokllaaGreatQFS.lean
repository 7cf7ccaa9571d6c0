/- The contract of deps.Set at references that may be. -/
import Derived.Test.YtcjanaldjokllaaGreatQFBFC
namespace Go.Proofs.YtcjanaldjokllaaGreat
open Go.RowKit Go.Shelf
set_option linter.all false
theorem zeroRefs (w : World) : (zeroValue 33).run Tryz.prog w = .ok nilS w := by kernel_rfl
set_option maxRecDepth 100000 in
set_option maxHeartbeats 16000000 in
theorem dset_ok (w : World) (N : Nat) (B : Nat → Option TagD) (E : Int → Int → List Rf) (n m : Nat) (v : Value) (l : List Rf) (r c : Int) (h : Dp w N B E n m) (hv : VF w v l) (hvb : ∀ p n c, v = .slice (some p) n c → 0 < n → B p.block = none) (hc : mayC r c = true) (hl : ∀ f ∈ l, mayF f = true) (hn : n + (E r c).length + l.length + 2 ≤ 3000000000000) (hm : m + l.length + 1 ≤ 3000000000000) : Calls Tryz.prog 10 #[.pointer (some ⟨N, 0, none⟩), .agg #[.int .i64 r, .int .i64 c], v] w fun e w' => e = .returned (.int .i64 0) ∧ DpOut w N B (updE E r c (onceR l)) (n + (E r c).length + l.length + 1) (m + l.length) w' := by
  have mixed : Tryz.prog.follows .mixedOrders = true := by kernel_rfl
  obtain ⟨hE, hNT, hdom, bf, bc, NB, hN, ⟨⟨ff, hM, hR⟩, hbT⟩, hT⟩ := h
  have hI := mayC_is hc
  have hIr : I64 r := ⟨by omega, by omega⟩
  have hIc : I64 c := ⟨by omega, by omega⟩
  obtain ⟨v0, hv0⟩ : ∃ v0, v0 = ff r c := ⟨_, rfl⟩
  obtain ⟨L0, hL0⟩ : ∃ L0, L0 = E r c := ⟨_, rfl⟩
  have hr0 := hR r c hIr hIc
  rw [← hv0, ← hL0] at hr0
  have hNl := hN.lt
  have hNt : ¬ isTo (B N) := by rw [hNT]; rintro (q | q | q) <;> cases q
  have hbt : ¬ isTo (B bf) := by rw [hbT]; rintro (q | q | q) <;> cases q
  have hvt : ∀ g, v0.ownBlock = some g → ¬ isTo (B g) := fun g q => by rw [hr0.2.2 g q]; rintro (q | q | q) <;> cases q
  have HNo : Hid (∀ W, Mut (fun b => isTo (B b)) w W → Own W N #[.map (some bf), .map (some bc), .pointer (some ⟨NB, 0, none⟩)]) := (show _ from fun W hm => hN.mut hm hNt)
  have HLk : Hid (∀ W, Mut (fun b => isTo (B b)) w W → (Instr.lookup 70 (.map (some bf)) (.agg #[.int .i64 r, .int .i64 c]) false).run Tryz.prog W = .ok v0 W) := (show _ from fun W hm => by rw [hv0]; exact (hM.mut hm hbt).look Tryz.underlying70 (zeroRefs W) r c hIr hIc)
  have hV0 : ∀ W, Mut (fun b => isTo (B b)) w W → RowF W v0 L0 := fun W hm => RowG.mut hr0.1 hm hvt
  have hS0 : L0.Pairwise (fun x y => cmpF x y < 0) := by rw [hL0]; exact hE.srt r c
  have hM0 : ∀ f ∈ L0, mayF f = true := fun f hf => (hE.may r c f (by rw [← hL0]; exact hf)).1
  have HRem : Hid (∀ W B1 k f, Sy w W bc NB B B1 (remK E r c (L0.take k)) (n + k) m w.heap.size #[.int .i64 r, .int .i64 c] → L0[k]? = some f → Calls Tryz.prog 23 #[.agg #[.map (some bc), .pointer (some ⟨NB, 0, none⟩)], .agg #[.bool f.m, .int .i64 f.t, .int .i64 f.l, .int .i64 f.b, .int .i64 f.q], .agg #[.int .i64 r, .int .i64 c]] W fun e w' => e = .returned (.tuple #[]) ∧ (∃ B2, Sy w w' bc NB B B2 (remK E r c (L0.take (k + 1))) (n + (k + 1)) m w.heap.size #[.int .i64 r, .int .i64 c]) ∧ Mut (fun b => isTo (B1 b)) W w') := (show _ from fun W B1 k f hs hf => by
    have hk := (List.getElem?_eq_some_iff.1 hf).1
    have hfm := List.mem_of_getElem? hf
    refine (trem_any W bc NB B1 _ (n + k) m r c f hs.to (hM0 f hfm) ⟨by rw [← hL0]; exact hfm, fun q => srt_nin hS0 hf q.2.2⟩ (by omega) (by rw [← hL0] at hn; omega)).mono ?_
    rintro e w' ⟨rfl, hq⟩
    obtain ⟨B2, k1⟩ := hs.step hq
    obtain ⟨B3, _, k2, _⟩ := hq
    exact ⟨rfl, ⟨B2, k1.congr (remK_next hf)⟩, k2⟩)
  obtain ⟨q0, c0, rfl, hc0, hm0, _⟩ := RowG.view (sz := 5) (cs := Rf.cs) (fun _ => rfl) hr0.1
  obtain ⟨n0, hn0⟩ : ∃ n0, n0 = L0.length := ⟨_, rfl⟩
  have HV0 : Hid (∀ W, Mut (fun b => isTo (B b)) w W → ∀ k, k < n0 → ∃ g f, q0 = some ⟨g, 0, none⟩ ∧ L0[k]? = some f ∧ ∀ j u, (Rf.cs f)[j]? = some u → W.cell? ⟨g, k * 5 + j, none⟩ = some u) := (show _ from fun W hm k hk => by
    obtain ⟨q1, c1, e1, _, _, h3⟩ := RowG.view (sz := 5) (cs := Rf.cs) (fun _ => rfl) (hV0 W hm)
    injection e1 with e1 e2 e3
    obtain ⟨g, e4, hg, hcl⟩ := h3 (by omega)
    obtain ⟨f, hf⟩ : ∃ f, L0[k]? = some f := ⟨_, List.getElem?_eq_getElem (by omega)⟩
    exact ⟨g, f, e1.trans e4, hf, hcl k f hf⟩)
  rw [← hn0] at hc0 HLk
  have HF0 : Hid (Fm w bf B E n) := (show Fm _ _ _ _ _ from ⟨⟨ff, hM, hR⟩, hbT⟩)
  have hbl : bf < w.heap.size := hM.lt
  have HNw : Hid (Own w N #[.map (some bf), .map (some bc), .pointer (some ⟨NB, 0, none⟩)]) := hN
  have hSy0 : ∀ W, Below w.heap.size w W → Own W w.heap.size #[.int .i64 r, .int .i64 c] → Sy w W bc NB B B (remK E r c []) n m w.heap.size #[.int .i64 r, .int .i64 c] := fun W hb ho => ⟨(hT.keep hb).congr (remK_nil E r c), Mut.of_below hb, fun _ _ => rfl, fun b q => .inl (hdom b q), hdom _ (Nat.le_refl _), ho⟩
  have HSy0 : Hid (∀ W, Below w.heap.size w W → Own W w.heap.size #[.int .i64 r, .int .i64 c] → Sy w W bc NB B B (remK E r c []) n m w.heap.size #[.int .i64 r, .int .i64 c]) := hSy0
  have HC : Hid (∀ W, Calls Tryz.prog 21 #[.agg #[.int .i64 r, .int .i64 c]] W fun e w' => e = .returned (.bool true) ∧ Below W.heap.size W w') := (show _ from fun W => by rw [← hc]; exact may_any r c W)
  obtain ⟨p, ln, cap, rfl, hln, hcap, hmx, hp⟩ := hv
  have HE : Hid (∀ i, i < ln → ∃ b o x, p = some ⟨b, o, none⟩ ∧ b < w.heap.size ∧ mayF x = true ∧ ∀ j u, (Rf.cs x)[j]? = some u → w.cell? ⟨b, o + i * 5 + j, none⟩ = some u) := (show _ from fun i hi => by
    obtain ⟨b, o, rfl, hb, hcl⟩ := hp (by omega)
    obtain ⟨x, hx⟩ : ∃ x, l[i]? = some x := ⟨_, List.getElem?_eq_getElem (by omega)⟩
    exact ⟨b, o, x, rfl, hb, hl x (List.mem_of_getElem? hx), hcl i x hx⟩)
  have HOn : Hid (∀ W, Mut (fun b => (B b).isSome = true) w W → 0 < ln → Calls Tryz.prog 24 #[.slice p ln cap] W fun e w' => ∃ v', e = .returned v' ∧ RowF w' v' (onceR l) ∧ (∀ g, v'.ownBlock = some g → W.heap.size ≤ g) ∧ Below W.heap.size W w') := (show _ from fun W hm hz => by
    obtain ⟨b, o, rfl, hb, hcl⟩ := hp (by omega)
    have hnb : B b = none := hvb _ _ _ rfl (by omega)
    refine once_any W b o ln cap l hln hz (by omega) (fun i x hx j u hu => ?_)
    have e := hm.block b hb (show ¬ (B b).isSome = true by rw [hnb]; intro q; cases q)
    have q := hcl i x hx j u hu
    unfold World.cell? at q ⊢
    dsimp only at q ⊢
    rw [e]
    exact q)
  have HN0 : Hid (n0 = L0.length) := hn0
  have HL0 : Hid (L0 = E r c) := hL0
  have HLn : Hid (ln = l.length) := hln
  have Hhn : Hid (n + n0 + ln + 2 ≤ 3000000000000) := (show _ ≤ _ by rw [hn0, hL0, hln]; exact hn)
  have hn0b : n0 ≤ 3000000000000 := by have := Hhn.out; omega
  have hlnb : ln ≤ 3000000000000 := by have := Hhn.out; omega
  have Hhm : Hid (m + ln + 1 ≤ 3000000000000) := (show _ ≤ _ by rw [hln]; exact hm)
  have Hv0 : Hid (Value.slice q0 n0 c0 = ff r c) := (show _ = _ by rw [hn0]; exact hv0)
  have HFl : Hid (∀ f ∈ l, mayF f = true) := hl
  have HMC : Hid (mayC r c = true) := hc
  have HEk : Hid (EOk E) := hE
  clear hn0 hL0 hln hn hm hv0
  clear hvb hp hl hT hdom hSy0 hV0 hR hM hE hr0 hN hNt hbt hvt hM0 hS0 hc hI hm0
  go_enter Tryz.func10, Tryz.ntmps10
  go_wp2_with (go_at_call 21; refine (HC.out _).mono ?_; rintro e wa ⟨rfl, hba⟩; have hBa : Below w.heap.size w wa := bup zqb hba; have oCa : Own wa w.heap.size #[.int .i64 r, .int .i64 c] := Own.keep (by with_reducible (repeat' first | assumption | refine Own.drew ?_ | refine Own.drewN ?_ _ | (refine Own.at ?_; first | rfl | (simp; done)) | refine Own.past ?_ _)) hba; clear hba)
  go_loopw [18] (fun u w' => ∃ i : Nat, u = .int .i64 i ∧ i ≤ ln ∧ Below w.heap.size w w' ∧ Own w' w.heap.size #[.int .i64 r, .int .i64 c]) (fun u _ => ln - (intOf u).toNat)
  case atStart => exact ⟨0, rfl, by omega, by with_reducible (repeat' first | assumption | exact Below.refl _ _ | refine Below.drew ?_ | refine bdrewN ?_ _ | refine Below.setCell ?_ (by first | exact Nat.le_refl _ | (simp; done) | (simp; omega) | omega) _ | refine Below.alloc ?_ (by first | exact Nat.le_refl _ | (simp; done) | (simp; omega) | omega) _), by with_reducible (repeat' first | assumption | refine Own.drew ?_ | refine Own.drewN ?_ _ | (refine Own.at ?_; first | rfl | (simp; done)) | refine Own.past ?_ _)⟩
  case round =>
    clear hBa oCa
    obtain ⟨i, rfl, hi, hB, oC⟩ := hrel
    have zB := hB.size
    by_cases hlt : i < ln
    · have hlt' : (i : Int) < ln := by omega
      as_aux_lemma =>
        obtain ⟨b, o, f, rfl, hb, hmf, hcl⟩ := HE.out i hlt
        have y0 : wr.cell? ⟨b, o + i * 5, none⟩ = some (.bool f.m) := (hB.cell (p := ⟨b, o + i * 5, none⟩) hb).trans (hcl 0 _ rfl)
        have y1 : wr.cell? ⟨b, o + i * 5 + 1, none⟩ = some (.int .i64 f.t) := (hB.cell (p := ⟨b, o + i * 5 + 1, none⟩) hb).trans (hcl 1 _ rfl)
        have y2 : wr.cell? ⟨b, o + i * 5 + 2, none⟩ = some (.int .i64 f.l) := (hB.cell (p := ⟨b, o + i * 5 + 2, none⟩) hb).trans (hcl 2 _ rfl)
        have y3 : wr.cell? ⟨b, o + i * 5 + 3, none⟩ = some (.int .i64 f.b) := (hB.cell (p := ⟨b, o + i * 5 + 3, none⟩) hb).trans (hcl 3 _ rfl)
        have y4 : wr.cell? ⟨b, o + i * 5 + 4, none⟩ = some (.int .i64 f.q) := (hB.cell (p := ⟨b, o + i * 5 + 4, none⟩) hb).trans (hcl 4 _ rfl)
        have HM0 := fun W => mayf_any f W
        rw [hmf] at HM0
        have HM : Hid (∀ W, Calls Tryz.prog 22 #[.agg #[.bool f.m, .int .i64 f.t, .int .i64 f.l, .int .i64 f.b, .int .i64 f.q]] W fun e w' => e = .returned (.bool true) ∧ Below W.heap.size W w') := HM0
        clear HM0 hmf hcl
        go_wp2_with (go_at_call 22; refine (HM.out _).mono ?_; rintro e wb ⟨rfl, hbb⟩; have hBb : Below w.heap.size w wb := bup zqb hbb; have oCb : Own wb w.heap.size #[.int .i64 r, .int .i64 c] := Own.keep (by with_reducible (repeat' first | assumption | refine Own.drew ?_ | refine Own.drewN ?_ _ | (refine Own.at ?_; first | rfl | (simp; done)) | refine Own.past ?_ _)) hbb; clear hbb)
        exact ⟨⟨i + 1, by go_num, by omega, hBb, oCb⟩, by simp [intOf] <;> omega⟩
    · have hlt' : ¬ (i : Int) < ln := by omega
      clear HE HC
      have hs0 := HSy0.out wr hB oC
      have hNr := HNo.out wr hs0.mt
      have a0 : wr.cell? ⟨N, 0, none⟩ = some (.map (some bf)) := hNr.cell 0
      have cC := oC.cell
      have lC := oC.lt
      have k0 := HLk.out wr hs0.mt
      have kq := fun q => HLk.out (wr.drewN q) (hs0.mt.drewN q)
      go_wp2
      go_quiet (fail)
      obtain ⟨W1, e1⟩ : ∃ W1 : World, W1 = wr.drewN nq := ⟨_, rfl⟩
      have hs1 : Sy w W1 bc NB B B (remK E r c (L0.take 0)) (n + 0) m w.heap.size #[.int .i64 r, .int .i64 c] := (by rw [e1]; exact hs0.keep (bdrewN (Below.refl _ _) _))
      rw [← e1]
      clear e1 a0 cC lC k0 kq hs0 hNr hB oC zB
      go_wp2
      go_loopw [33] (fun u w' => ∃ (k : Nat) (B1 : Nat → Option TagD), u = .int .i64 k ∧ k ≤ n0 ∧ Hid (Sy w w' bc NB B B1 (remK E r c (L0.take k)) (n + k) m w.heap.size #[.int .i64 r, .int .i64 c])) (fun u _ => n0 - (intOf u).toNat)
      case atStart => exact ⟨0, B, rfl, by omega, (show Hid _ from (show Sy _ _ _ _ _ _ _ _ _ _ _ from hs1))⟩
      case round =>
        clear hs1
        obtain ⟨k, B1, rfl, hk, HS⟩ := hrel
        by_cases hlk : k < n0
        · have hlk' : (k : Int) < n0 := by omega
          as_aux_lemma =>
            obtain ⟨g, f, rfl, hf, hcl⟩ := HV0.out wr HS.out.mt k hlk
            have y0 : wr.cell? ⟨g, k * 5, none⟩ = some (.bool f.m) := hcl 0 _ rfl
            have y1 : wr.cell? ⟨g, k * 5 + 1, none⟩ = some (.int .i64 f.t) := hcl 1 _ rfl
            have y2 : wr.cell? ⟨g, k * 5 + 2, none⟩ = some (.int .i64 f.l) := hcl 2 _ rfl
            have y3 : wr.cell? ⟨g, k * 5 + 3, none⟩ = some (.int .i64 f.b) := hcl 3 _ rfl
            have y4 : wr.cell? ⟨g, k * 5 + 4, none⟩ = some (.int .i64 f.q) := hcl 4 _ rfl
            have hglt : g < wr.heap.size := (by
              rcases Nat.lt_or_ge g wr.heap.size with q | q
              · exact q
              · rw [World.cell?, Array.getElem?_eq_none q] at y0; cases y0)
            have HRk : Hid (∀ W, Sy w W bc NB B B1 (remK E r c (L0.take k)) (n + k) m w.heap.size #[.int .i64 r, .int .i64 c] → Calls Tryz.prog 23 #[.agg #[.map (some bc), .pointer (some ⟨NB, 0, none⟩)], .agg #[.bool f.m, .int .i64 f.t, .int .i64 f.l, .int .i64 f.b, .int .i64 f.q], .agg #[.int .i64 r, .int .i64 c]] W fun e w' => e = .returned (.tuple #[]) ∧ (∃ B2, Sy w w' bc NB B B2 (remK E r c (L0.take (k + 1))) (n + (k + 1)) m w.heap.size #[.int .i64 r, .int .i64 c]) ∧ Mut (fun b => isTo (B1 b)) W w') := (show _ from fun W hs => HRem.out W B1 k f hs hf)
            clear hcl hf
            go_wp2
            obtain ⟨W2, hW2⟩ : ∃ W2 : World, W2 = wr.alloc (.cells #[.bool f.m, .int .i64 f.t, .int .i64 f.l, .int .i64 f.b, .int .i64 f.q] 53) := ⟨_, rfl⟩
            obtain ⟨XB, hXB⟩ : ∃ XB : Nat, XB = wr.heap.size := ⟨_, rfl⟩
            have hs2 : Sy w W2 bc NB B B1 (remK E r c (L0.take k)) (n + k) m w.heap.size #[.int .i64 r, .int .i64 c] := (by rw [hW2]; exact HS.out.keep (bal _ _))
            have oX : Own W2 XB #[.bool f.m, .int .i64 f.t, .int .i64 f.l, .int .i64 f.b, .int .i64 f.q] := (by rw [hW2, hXB]; with_reducible (repeat' first | assumption | refine Own.drew ?_ | refine Own.drewN ?_ _ | (refine Own.at ?_; first | rfl | (simp; done)) | refine Own.past ?_ _))
            have hfr : ¬ isTo (B1 XB) := HS.out.fresh (by rw [hXB]; exact Nat.le_refl _)
            rw [← hW2, ← hXB]
            clear hW2 hXB HS y0 y1 y2 y3 y4 hglt
            have oN := HNo.out W2 hs2.mt
            have oC := hs2.own
            have n0 : W2.cell? ⟨N, 0, none⟩ = some (.map (some bf)) := oN.cell 0
            have n1 : W2.cell? ⟨N, 1, none⟩ = some (.map (some bc)) := oN.cell 1
            have n2 : W2.cell? ⟨N, 2, none⟩ = some (.pointer (some ⟨NB, 0, none⟩)) := oN.cell 2
            have x0 : W2.cell? ⟨XB, 0, none⟩ = some (.bool f.m) := oX.cell 0
            have x1 : W2.cell? ⟨XB, 1, none⟩ = some (.int .i64 f.t) := oX.cell 1
            have x2 : W2.cell? ⟨XB, 2, none⟩ = some (.int .i64 f.l) := oX.cell 2
            have x3 : W2.cell? ⟨XB, 3, none⟩ = some (.int .i64 f.b) := oX.cell 3
            have x4 : W2.cell? ⟨XB, 4, none⟩ = some (.int .i64 f.q) := oX.cell 4
            have c0 : W2.cell? ⟨w.heap.size, 0, none⟩ = some (.int .i64 r) := oC.cell 0
            have c1 : W2.cell? ⟨w.heap.size, 1, none⟩ = some (.int .i64 c) := oC.cell 1
            go_region_held3 (fun w' => w'.cell? ⟨N, 0, none⟩ = some (.map (some bf)) ∧ w'.cell? ⟨N, 1, none⟩ = some (.map (some bc)) ∧ w'.cell? ⟨N, 2, none⟩ = some (.pointer (some ⟨NB, 0, none⟩)) ∧ w'.cell? ⟨XB, 0, none⟩ = some (.bool f.m) ∧ w'.cell? ⟨XB, 1, none⟩ = some (.int .i64 f.t) ∧ w'.cell? ⟨XB, 2, none⟩ = some (.int .i64 f.l) ∧ w'.cell? ⟨XB, 3, none⟩ = some (.int .i64 f.b) ∧ w'.cell? ⟨XB, 4, none⟩ = some (.int .i64 f.q) ∧ w'.cell? ⟨w.heap.size, 0, none⟩ = some (.int .i64 r) ∧ w'.cell? ⟨w.heap.size, 1, none⟩ = some (.int .i64 c)) ((repeat' apply And.intro) <;> (first | (go_keep; done) | (go_simp; done))) ((go_at_call 23; refine (HRk.out _ (hs2.keep zqb)).mono ?_; rintro e wb ⟨rfl, ⟨B2, q1⟩, q2⟩; have HSb : Hid (Sy w wb bc NB B B2 (remK E r c (L0.take (k + 1))) (n + (k + 1)) m w.heap.size #[.int .i64 r, .int .i64 c]) := q1; have oXb : Own wb XB #[.bool f.m, .int .i64 f.t, .int .i64 f.l, .int .i64 f.b, .int .i64 f.q] := Own.mut (by with_reducible (repeat' first | assumption | refine Own.drew ?_ | refine Own.drewN ?_ _ | (refine Own.at ?_; first | rfl | (simp; done)) | refine Own.past ?_ _)) q2 hfr; have oNb := HNo.out wb q1.mt; have oCb := q1.own; have nb0 : wb.cell? ⟨N, 0, none⟩ = some (.map (some bf)) := oNb.cell 0; have nb1 : wb.cell? ⟨N, 1, none⟩ = some (.map (some bc)) := oNb.cell 1; have nb2 : wb.cell? ⟨N, 2, none⟩ = some (.pointer (some ⟨NB, 0, none⟩)) := oNb.cell 2; have xb0 : wb.cell? ⟨XB, 0, none⟩ = some (.bool f.m) := oXb.cell 0; have xb1 : wb.cell? ⟨XB, 1, none⟩ = some (.int .i64 f.t) := oXb.cell 1; have xb2 : wb.cell? ⟨XB, 2, none⟩ = some (.int .i64 f.l) := oXb.cell 2; have xb3 : wb.cell? ⟨XB, 3, none⟩ = some (.int .i64 f.b) := oXb.cell 3; have xb4 : wb.cell? ⟨XB, 4, none⟩ = some (.int .i64 f.q) := oXb.cell 4; have cb0 : wb.cell? ⟨w.heap.size, 0, none⟩ = some (.int .i64 r) := oCb.cell 0; have cb1 : wb.cell? ⟨w.heap.size, 1, none⟩ = some (.int .i64 c) := oCb.cell 1; clear q1 q2))
            go_wp2
            exact ⟨⟨k + 1, B2, by go_num, by omega, (show Hid _ from (show Sy _ _ _ _ _ _ _ _ _ _ _ from HSb.out.keep zqb))⟩, by simp [intOf] <;> omega⟩
        · have hlk' : ¬ (k : Int) < n0 := by omega
          have hk2 : L0.take k = E r c := by rw [← HL0.out]; exact List.take_of_length_le (by rw [← HN0.out]; omega)
          have hs3 : Sy w wr bc NB B B1 (addK E r c []) (n + k) m w.heap.size #[.int .i64 r, .int .i64 c] := HS.out.congr (fun a b f => by rw [hk2]; exact remK_all E r c a b f)
          clear HS HRem HV0 hlk
          obtain ⟨⟨f1, m1, r1⟩, t1⟩ := Fm.mut HF0.out hs3.mt (fun b q => q) hs3.old
          have m1' : MapF wr.drew bf n f1 := m1.keep (Below.refl _ _).drew
          obtain ⟨w3, hdel, d2, d3⟩ := m1'.del Tryz.underlying70 r c hIr hIc 0
          have hdm : Mut (fun k => k = bf) wr w3 := (Mut.of_below (Below.refl _ _).drew).call d3 (fun b q => .inl q)
          have hfd : Fm w3 bf B1 (updE E r c []) n := Fm.del (w := wr) r1 t1 d2 hdm
          have hmid : Mid w w3 N bf bc NB B B1 E r c [] (n + k) m w.heap.size #[.int .i64 r, .int .i64 c] := mid_del hs3 HNw.out hNT hbT hbl hdm (hfd.more (by omega))
          have HMid : Hid (Mid w w3 N bf bc NB B B1 E r c [] (n + k) m w.heap.size #[.int .i64 r, .int .i64 c]) := hmid
          have oN := HNo.out wr hs3.mt
          have a0 : wr.cell? ⟨N, 0, none⟩ = some (.map (some bf)) := oN.cell 0
          have b0 : wr.cell? ⟨w.heap.size, 0, none⟩ = some (.int .i64 r) := hs3.own.cell 0
          have b1 : wr.cell? ⟨w.heap.size, 1, none⟩ = some (.int .i64 c) := hs3.own.cell 1
          have oN3 := hmid.oN
          have oC3 := hmid.sy.own
          have a3 : w3.cell? ⟨N, 0, none⟩ = some (.map (some bf)) := oN3.cell 0
          have b3 : w3.cell? ⟨w.heap.size, 0, none⟩ = some (.int .i64 r) := oC3.cell 0
          have b4 : w3.cell? ⟨w.heap.size, 1, none⟩ = some (.int .i64 c) := oC3.cell 1
          clear m1 r1 t1 m1' d2 d3 hdm hfd hs3 hmid hk2
          go_wp2
          refine wp_region_held_drew (S := (fun w' => w'.cell? ⟨N, 0, none⟩ = some (.map (some bf)) ∧ w'.cell? ⟨w.heap.size, 0, none⟩ = some (.int .i64 r) ∧ w'.cell? ⟨w.heap.size, 1, none⟩ = some (.int .i64 c))) (by kernel_rfl) (by (try dsimp only); ((repeat' apply And.intro) <;> (first | (go_keep; done) | (go_simp; done)))) (fun hHeld => ?_)
          refine wpAnyH_take (i := 0) (v := .pointer (some ⟨N, 0, none⟩)) rfl (by kernel_rfl) (by kernel_rfl) (by kernel_rfl) (fun _ _ _ h => h) (Or.inl ⟨by first | rfl | kernel_rfl, by intro wz hSw; (try dsimp only at hSw); go_simp⟩) (by assumption) ?_
          (try simp only [Act.put, List.getElem_toArray, List.getElem_cons_succ, List.getElem_cons_zero, List.setIfInBounds_toArray, List.set_cons_zero, List.set_cons_succ])
          refine wpAnyH_take (i := 1) (v := .pointer (some ⟨N, 0, none⟩)) rfl (by kernel_rfl) (by kernel_rfl) (by kernel_rfl) (fun _ _ _ h => h) (Or.inl ⟨by first | rfl | kernel_rfl, by intro wz hSw; (try dsimp only at hSw); go_simp⟩) (by assumption) ?_
          (try simp only [Act.put, List.getElem_toArray, List.getElem_cons_succ, List.getElem_cons_zero, List.setIfInBounds_toArray, List.set_cons_zero, List.set_cons_succ])
          refine wpAnyH_take (i := 2) (v := .pointer (some ⟨N, 0, none⟩)) rfl (by kernel_rfl) (by kernel_rfl) (by kernel_rfl) (fun _ _ _ h => h) (Or.inl ⟨by first | rfl | kernel_rfl, by intro wz hSw; (try dsimp only at hSw); go_simp⟩) (by assumption) ?_
          (try simp only [Act.put, List.getElem_toArray, List.getElem_cons_succ, List.getElem_cons_zero, List.setIfInBounds_toArray, List.set_cons_zero, List.set_cons_succ])
          refine wpAnyH_take (i := 3) (v := .map (some bf)) rfl (by kernel_rfl) (by kernel_rfl) (by kernel_rfl) (fun _ _ _ h => h) (Or.inl ⟨by first | rfl | kernel_rfl, by intro wz hSw; (try dsimp only at hSw); go_simp⟩) (by assumption) ?_
          (try simp only [Act.put, List.getElem_toArray, List.getElem_cons_succ, List.getElem_cons_zero, List.setIfInBounds_toArray, List.set_cons_zero, List.set_cons_succ])
          refine wpAnyH_take (i := 4) (v := (.agg #[.int .i64 r, .int .i64 c])) rfl (by kernel_rfl) (by kernel_rfl) (by kernel_rfl) (fun _ _ _ h => h) (Or.inl ⟨by first | rfl | kernel_rfl, by intro wz hSw; (try dsimp only at hSw); go_simp⟩) (by assumption) ?_
          (try simp only [Act.put, List.getElem_toArray, List.getElem_cons_succ, List.getElem_cons_zero, List.setIfInBounds_toArray, List.set_cons_zero, List.set_cons_succ])
          refine wpAnyH_ready (rs := [5]) (by kernel_rfl) (by simp) ?_
          refine AllReadyH.cons rfl (fun K hK => ?_) ?_
          · go_simp
            refine hK.out _ _ (by (try dsimp only); first | (with_reducible assumption) | ((repeat' apply And.intro) <;> (first | (go_keep; done) | (go_simp; done)))) (fun hHeld => ?_)
            clear hK K
            (try simp only [Act.put, List.getElem_toArray, List.getElem_cons_succ, List.getElem_cons_zero, List.setIfInBounds_toArray, List.set_cons_zero, List.set_cons_succ])
            refine wpAnyH_done (by kernel_rfl) ?_ _
            by_cases hz : 0 < ln
            · have hz' : (0 : Int) < ln := by omega
              have HPut : Hid (∀ w4 v', Below w3.heap.size w3 w4 → RowF w4 v' (onceR l) → (∀ g, v'.ownBlock = some g → w3.heap.size ≤ g) → ∃ W5 B5, (Instr.mapUpdate 70 (.map (some bf)) (.agg #[.int .i64 r, .int .i64 c]) v').run Tryz.prog w4 = .ok () W5 ∧ Mid w W5 N bf bc NB B B5 E r c (onceR l) (n + k + 1) m w.heap.size #[.int .i64 r, .int .i64 c]) := (show _ from fun w4 v' hb4 hv' hg => by
                have h := HMid.out
                obtain ⟨⟨f3, m3, r3⟩, t3⟩ := h.fm
                have hbl3 : bf < w3.heap.size := m3.lt
                have hLne : onceR l ≠ [] := fun q => by
                  have q2 : l = [] := by
                    cases l with
                    | nil => rfl
                    | cons x t => have := (onceR_mem (x :: t) x).2 List.mem_cons_self; rw [q] at this; cases this
                  have := HLn.out
                  rw [q2] at this
                  simp at this
                  omega
                have hne : v' ≠ nilS := fun q => by
                  obtain ⟨q1, c1, e1, _⟩ := RowG.view (sz := 5) (cs := Rf.cs) (fun _ => rfl) hv'
                  rw [q] at e1
                  injection e1 with e1 e2 e3
                  exact hLne (List.length_eq_zero_iff.1 e2.symm)
                have hbnd := Hhn.out
                obtain ⟨W5, hup, d2, d3⟩ := (m3.keep hb4).put Tryz.underlying70 (by unfold maxLen; omega) r c hIr hIc v' hne
                have hv5 : RowF W5 v' (onceR l) := RowG.mut hv' d3 (fun g q e => by subst e; have := hg _ q; omega)
                have hB4 : ∀ g, v'.ownBlock = some g → B1 g = none := fun g q => by
                  rcases h.sy.new g (hg g q) with q2 | q2
                  · exact q2
                  · have := hg g q; omega
                have hf := Fm.put (w := w4) (fun a b ha hb => ⟨RowG.keep (r3 a b ha hb).1 hb4, (r3 a b ha hb).2⟩) t3 d2 d3 hv5 hLne hB4
                exact ⟨W5, _, hup, mid_put h t3 hb4 d3 hbl3 hv5 hg hf hbT hbl⟩)
              have HOn3 : Hid (∀ W, Below w3.heap.size w3 W → Calls Tryz.prog 24 #[.slice p ln cap] W fun e w' => ∃ v', e = .returned v' ∧ RowF w' v' (onceR l) ∧ (∀ g, v'.ownBlock = some g → W.heap.size ≤ g) ∧ Below W.heap.size W w') := (show _ from fun W hb => HOn.out W (HMid.out.mt.below hb) hz)
              clear a0 b0 b1 oN hdel
              go_wp2
              refine wp_region_held_drew (S := (fun w' => w'.cell? ⟨N, 0, none⟩ = some (.map (some bf)) ∧ w'.cell? ⟨w.heap.size, 0, none⟩ = some (.int .i64 r) ∧ w'.cell? ⟨w.heap.size, 1, none⟩ = some (.int .i64 c))) (by kernel_rfl) (by (try dsimp only); ((repeat' apply And.intro) <;> (first | (go_keep; done) | (go_simp; done)))) (fun hHeld => ?_)
              refine wpAnyH_take (i := 0) (v := .pointer (some ⟨N, 0, none⟩)) rfl (by kernel_rfl) (by kernel_rfl) (by kernel_rfl) (fun _ _ _ h => h) (Or.inl ⟨by first | rfl | kernel_rfl, by intro wz hSw; (try dsimp only at hSw); go_simp⟩) (by assumption) ?_
              (try simp only [Act.put, List.getElem_toArray, List.getElem_cons_succ, List.getElem_cons_zero, List.setIfInBounds_toArray, List.set_cons_zero, List.set_cons_succ])
              refine wpAnyH_take (i := 1) (v := .pointer (some ⟨N, 0, none⟩)) rfl (by kernel_rfl) (by kernel_rfl) (by kernel_rfl) (fun _ _ _ h => h) (Or.inl ⟨by first | rfl | kernel_rfl, by intro wz hSw; (try dsimp only at hSw); go_simp⟩) (by assumption) ?_
              (try simp only [Act.put, List.getElem_toArray, List.getElem_cons_succ, List.getElem_cons_zero, List.setIfInBounds_toArray, List.set_cons_zero, List.set_cons_succ])
              refine wpAnyH_take (i := 2) (v := .pointer (some ⟨N, 0, none⟩)) rfl (by kernel_rfl) (by kernel_rfl) (by kernel_rfl) (fun _ _ _ h => h) (Or.inl ⟨by first | rfl | kernel_rfl, by intro wz hSw; (try dsimp only at hSw); go_simp⟩) (by assumption) ?_
              (try simp only [Act.put, List.getElem_toArray, List.getElem_cons_succ, List.getElem_cons_zero, List.setIfInBounds_toArray, List.set_cons_zero, List.set_cons_succ])
              refine wpAnyH_take (i := 3) (v := .map (some bf)) rfl (by kernel_rfl) (by kernel_rfl) (by kernel_rfl) (fun _ _ _ h => h) (Or.inl ⟨by first | rfl | kernel_rfl, by intro wz hSw; (try dsimp only at hSw); go_simp⟩) (by assumption) ?_
              (try simp only [Act.put, List.getElem_toArray, List.getElem_cons_succ, List.getElem_cons_zero, List.setIfInBounds_toArray, List.set_cons_zero, List.set_cons_succ])
              refine wpAnyH_take (i := 4) (v := (.agg #[.int .i64 r, .int .i64 c])) rfl (by kernel_rfl) (by kernel_rfl) (by kernel_rfl) (fun _ _ _ h => h) (Or.inl ⟨by first | rfl | kernel_rfl, by intro wz hSw; (try dsimp only at hSw); go_simp⟩) (by assumption) ?_
              (try simp only [Act.put, List.getElem_toArray, List.getElem_cons_succ, List.getElem_cons_zero, List.setIfInBounds_toArray, List.set_cons_zero, List.set_cons_succ])
              refine wpAnyH_take (i := 5) (v := .slice p ln cap) rfl (by kernel_rfl) (by kernel_rfl) (by kernel_rfl) (fun _ _ _ h => h) (Or.inl ⟨by first | rfl | kernel_rfl, by intro wz hSw; (try dsimp only at hSw); go_simp⟩) (by assumption) ?_
              (try simp only [Act.put, List.getElem_toArray, List.getElem_cons_succ, List.getElem_cons_zero, List.setIfInBounds_toArray, List.set_cons_zero, List.set_cons_succ])
              refine wpAnyH_ready (rs := [6]) (by kernel_rfl) (by simp) ?_
              refine AllReadyH.cons rfl (fun K hK => ?_) ?_
              · go_simp
                (go_at_call 24; refine (HOn3.out _ zqb).mono ?_; rintro e w4 ⟨v', rfl, q1, q2, q3⟩; have hB4 : Below w3.heap.size w3 w4 := bup zqb q3; obtain ⟨W5, B5, hup, hm5⟩ := HPut.out w4 v' hB4 q1 q2; have oN4 := Own.keep oN3 hB4; have oC4 := Own.keep oC3 hB4; have a4 : w4.cell? ⟨N, 0, none⟩ = some (.map (some bf)) := oN4.cell 0; have b4 : w4.cell? ⟨w.heap.size, 0, none⟩ = some (.int .i64 r) := oC4.cell 0; have b41 : w4.cell? ⟨w.heap.size, 1, none⟩ = some (.int .i64 c) := oC4.cell 1; have a5 : W5.cell? ⟨N, 0, none⟩ = some (.map (some bf)) := hm5.oN.cell 0; have b5 : W5.cell? ⟨w.heap.size, 0, none⟩ = some (.int .i64 r) := hm5.sy.own.cell 0; have b51 : W5.cell? ⟨w.heap.size, 1, none⟩ = some (.int .i64 c) := hm5.sy.own.cell 1; have HMd : Hid (Mid w W5 N bf bc NB B B5 E r c (onceR l) (n + k + 1) m w.heap.size #[.int .i64 r, .int .i64 c]) := hm5; clear hm5 q1 q2 q3 oN4 oC4)
                go_wp2_with fail
                refine hK.out _ _ (by (try dsimp only); first | (with_reducible assumption) | ((repeat' apply And.intro) <;> (first | (go_keep; done) | (go_simp; done)))) (fun hHeld => ?_)
                clear hK K
                (try simp only [Act.put, List.getElem_toArray, List.getElem_cons_succ, List.getElem_cons_zero, List.setIfInBounds_toArray, List.set_cons_zero, List.set_cons_succ])
                refine wpAnyH_ready (rs := [7]) (by kernel_rfl) (by simp) ?_
                refine AllReadyH.cons rfl (fun K hK => ?_) ?_
                · go_simp
                  refine hK.out _ _ (by (try dsimp only); first | (with_reducible assumption) | ((repeat' apply And.intro) <;> (first | (go_keep; done) | (go_simp; done)))) (fun hHeld => ?_)
                  clear hK K
                  (try simp only [Act.put, List.getElem_toArray, List.getElem_cons_succ, List.getElem_cons_zero, List.setIfInBounds_toArray, List.set_cons_zero, List.set_cons_succ])
                  refine wpAnyH_done (by kernel_rfl) ?_ _
                  obtain ⟨L1, HL1⟩ : ∃ L1 : List Rf, Hid (L1 = onceR l) := ⟨_, (show _ = _ from rfl)⟩
                  have HM5 : Hid (Mid w W5 N bf bc NB B B5 E r c L1 (n + k + 1) m w.heap.size #[.int .i64 r, .int .i64 c]) := (by rw [HL1.out]; exact HMd)
                  obtain ⟨nn, hnn⟩ : ∃ nn, nn = n + k + 1 := ⟨_, rfl⟩
                  have Hnn : Hid (nn ≤ n + n0 + 1) := (show _ ≤ _ by omega)
                  rw [← hnn] at HM5
                  clear hnn HMd HMid HPut HOn3 HOn a3 b3 b4 b41 a4 a5 b5 b51 hup oN3 oC3 hB4
                  go_wp2
                  clear hz hz'
                  have oN := HM5.out.oN
                  have oC := HM5.out.sy.own
                  have a0 : W5.cell? ⟨N, 0, none⟩ = some (.map (some bf)) := oN.cell 0
                  have cC := oC.cell
                  have lC := oC.lt
                  obtain ⟨⟨f5, m5, r5⟩, t5⟩ := HM5.out.fm
                  have k0 : (Instr.lookup 70 (.map (some bf)) (.agg #[.int .i64 r, .int .i64 c]) false).run Tryz.prog W5 = .ok (f5 r c) W5 := m5.look Tryz.underlying70 (zeroRefs W5) r c hIr hIc
                  have kq := fun q => (show (Instr.lookup 70 (.map (some bf)) (.agg #[.int .i64 r, .int .i64 c]) false).run Tryz.prog (W5.drewN q) = .ok (f5 r c) (W5.drewN q) from (m5.keep (bdrewN (Below.refl _ _) q)).look Tryz.underlying70 (zeroRefs _) r c hIr hIc)
                  obtain ⟨v5, hv5⟩ : ∃ v5, v5 = f5 r c := ⟨_, rfl⟩
                  have r5' := r5 r c hIr hIc
                  rw [← hv5] at k0 kq r5'
                  have r6 : RowF W5 v5 L1 := (by have q := r5'.1; unfold updE at q; rw [if_pos ⟨rfl, rfl⟩] at q; exact q)
                  have hvt : ∀ g, v5.ownBlock = some g → ¬ isTo (B5 g) := fun g q => by rw [r5'.2.2 g q]; rintro (q | q | q) <;> cases q
                  have hV5 : ∀ W', Mut (fun b => isTo (B5 b)) W5 W' → RowF W' v5 L1 := fun W' hm => RowG.mut r6 hm hvt
                  obtain ⟨q5, c5, rfl, hc5, hm5, _⟩ := RowG.view (sz := 5) (cs := Rf.cs) (fun _ => rfl) r6
                  obtain ⟨n5, hn5⟩ : ∃ n5, n5 = L1.length := ⟨_, rfl⟩
                  have hL5 : n5 ≤ ln := by rw [hn5, HL1.out]; have := onceR_len l; have := HLn.out; omega
                  have HV5 : Hid (∀ W', Mut (fun b => isTo (B5 b)) W5 W' → ∀ k, k < n5 → ∃ g f, q5 = some ⟨g, 0, none⟩ ∧ L1[k]? = some f ∧ ∀ j u, (Rf.cs f)[j]? = some u → W'.cell? ⟨g, k * 5 + j, none⟩ = some u) := (show _ from fun W' hm k hk => by
                    obtain ⟨q1, c1, e1, _, _, h3⟩ := RowG.view (sz := 5) (cs := Rf.cs) (fun _ => rfl) (hV5 W' hm)
                    injection e1 with e1 e2 e3
                    obtain ⟨g, e4, hg, hcl⟩ := h3 (by omega)
                    obtain ⟨f, hf⟩ : ∃ f, L1[k]? = some f := ⟨_, List.getElem?_eq_getElem (by omega)⟩
                    exact ⟨g, f, e1.trans e4, hf, hcl k f hf⟩)
                  have HAdd : Hid (∀ W' B2 k f, Sy W5 W' bc NB B5 B2 (addK E r c (L1.take k)) (nn + k) (m + k) w.heap.size #[.int .i64 r, .int .i64 c] → k < n5 → L1[k]? = some f → Calls Tryz.prog 25 #[.agg #[.map (some bc), .pointer (some ⟨NB, 0, none⟩)], .agg #[.bool f.m, .int .i64 f.t, .int .i64 f.l, .int .i64 f.b, .int .i64 f.q], .agg #[.int .i64 r, .int .i64 c]] W' fun e w' => e = .returned (.tuple #[]) ∧ (∃ B3, Sy W5 w' bc NB B5 B3 (addK E r c (L1.take (k + 1))) (nn + (k + 1)) (m + (k + 1)) w.heap.size #[.int .i64 r, .int .i64 c]) ∧ Mut (fun b => isTo (B2 b)) W' w') := (show _ from fun W' B2 k f hs hk hf => by
                    have hfm := List.mem_of_getElem? hf
                    have hS1 : L1.Pairwise (fun x y => cmpF x y < 0) := by rw [HL1.out]; exact onceR_srt l
                    have b1 := Hhn.out
                    have b2 := Hnn.out
                    have b3 := Hhm.out
                    refine (tadd_any W' bc NB B2 _ (nn + k) (m + k) r c f hs.to (HFl.out f ((onceR_mem l f).1 (by rw [← HL1.out]; exact hfm))) HMC.out (fun q => q.elim (fun q => q.2 ⟨rfl, rfl⟩) (fun q => srt_nin hS1 hf q.2.2)) (by omega) (by omega)).mono ?_
                    rintro e w' ⟨rfl, hq⟩
                    obtain ⟨B3, k1⟩ := hs.step hq
                    obtain ⟨B4, _, k2, _⟩ := hq
                    exact ⟨rfl, ⟨B3, k1.congr (addK_next hf)⟩, k2⟩)
                  rw [← hn5] at hc5 k0 kq
                  have HN5 : Hid (n5 = L1.length) := hn5
                  have hn5b : n5 ≤ 3000000000000 := by omega
                  clear hn5 m5 r5 t5 r5' hv5 r6 hvt hV5 hm5
                  go_quiet (fail)
                  obtain ⟨W6, e6⟩ : ∃ W6 : World, W6 = W5.drewN nq := ⟨_, rfl⟩
                  have hs6 : Sy W5 W6 bc NB B5 B5 (addK E r c (L1.take 0)) (nn + 0) (m + 0) w.heap.size #[.int .i64 r, .int .i64 c] := (by rw [e6]; exact HM5.out.sy.keep (bdrewN (Below.refl _ _) _))
                  rw [← e6]
                  clear e6 a0 cC lC k0 kq oN oC
                  go_wp2
                  go_loopw [67] (fun u w' => ∃ (k5 : Nat) (B2 : Nat → Option TagD), u = .int .i64 k5 ∧ k5 ≤ n5 ∧ Hid (Sy W5 w' bc NB B5 B2 (addK E r c (L1.take k5)) (nn + k5) (m + k5) w.heap.size #[.int .i64 r, .int .i64 c])) (fun u _ => n5 - (intOf u).toNat)
                  case atStart => exact ⟨0, B5, rfl, by omega, (show Hid _ from (show Sy _ _ _ _ _ _ _ _ _ _ _ from hs6))⟩
                  case round =>
                    clear hs6
                    obtain ⟨k5, B2, rfl, hk5, HS⟩ := hrel
                    by_cases hlk5 : k5 < n5
                    · have hlk6 : (k5 : Int) < n5 := by omega
                      obtain ⟨g, f, rfl, hf, hcl⟩ := HV5.out wr HS.out.mt k5 hlk5
                      have y0 : wr.cell? ⟨g, k5 * 5, none⟩ = some (.bool f.m) := hcl 0 _ rfl
                      have y1 : wr.cell? ⟨g, k5 * 5 + 1, none⟩ = some (.int .i64 f.t) := hcl 1 _ rfl
                      have y2 : wr.cell? ⟨g, k5 * 5 + 2, none⟩ = some (.int .i64 f.l) := hcl 2 _ rfl
                      have y3 : wr.cell? ⟨g, k5 * 5 + 3, none⟩ = some (.int .i64 f.b) := hcl 3 _ rfl
                      have y4 : wr.cell? ⟨g, k5 * 5 + 4, none⟩ = some (.int .i64 f.q) := hcl 4 _ rfl
                      have hglt : g < wr.heap.size := (by
                        rcases Nat.lt_or_ge g wr.heap.size with q | q
                        · exact q
                        · rw [World.cell?, Array.getElem?_eq_none q] at y0; cases y0)
                      have HRk : Hid (∀ W', Sy W5 W' bc NB B5 B2 (addK E r c (L1.take k5)) (nn + k5) (m + k5) w.heap.size #[.int .i64 r, .int .i64 c] → Calls Tryz.prog 25 #[.agg #[.map (some bc), .pointer (some ⟨NB, 0, none⟩)], .agg #[.bool f.m, .int .i64 f.t, .int .i64 f.l, .int .i64 f.b, .int .i64 f.q], .agg #[.int .i64 r, .int .i64 c]] W' fun e w' => e = .returned (.tuple #[]) ∧ (∃ B3, Sy W5 w' bc NB B5 B3 (addK E r c (L1.take (k5 + 1))) (nn + (k5 + 1)) (m + (k5 + 1)) w.heap.size #[.int .i64 r, .int .i64 c]) ∧ Mut (fun b => isTo (B2 b)) W' w') := (show _ from fun W' hs => HAdd.out W' B2 k5 f hs hlk5 hf)
                      clear hcl hf
                      go_wp2
                      obtain ⟨W2, hW2⟩ : ∃ W2 : World, W2 = wr.alloc (.cells #[.bool f.m, .int .i64 f.t, .int .i64 f.l, .int .i64 f.b, .int .i64 f.q] 53) := ⟨_, rfl⟩
                      obtain ⟨XB, hXB⟩ : ∃ XB : Nat, XB = wr.heap.size := ⟨_, rfl⟩
                      have hs2 : Sy W5 W2 bc NB B5 B2 (addK E r c (L1.take k5)) (nn + k5) (m + k5) w.heap.size #[.int .i64 r, .int .i64 c] := (by rw [hW2]; exact HS.out.keep (bal _ _))
                      have oX : Own W2 XB #[.bool f.m, .int .i64 f.t, .int .i64 f.l, .int .i64 f.b, .int .i64 f.q] := (by rw [hW2, hXB]; with_reducible (repeat' first | assumption | refine Own.drew ?_ | refine Own.drewN ?_ _ | (refine Own.at ?_; first | rfl | (simp; done)) | refine Own.past ?_ _))
                      have hfr : ¬ isTo (B2 XB) := HS.out.fresh (by rw [hXB]; exact Nat.le_refl _)
                      rw [← hW2, ← hXB]
                      clear hW2 hXB HS y0 y1 y2 y3 y4 hglt
                      have HN5o : Hid (∀ W', Mut (fun b => isTo (B5 b)) W5 W' → Own W' N #[.map (some bf), .map (some bc), .pointer (some ⟨NB, 0, none⟩)]) := (show _ from fun W' hm => HM5.out.oN.mut hm (by rw [HM5.out.NT]; rintro (q | q | q) <;> cases q))
                      have oN := HN5o.out W2 hs2.mt
                      have oC := hs2.own
                      have an0 : W2.cell? ⟨N, 0, none⟩ = some (.map (some bf)) := oN.cell 0
                      have an1 : W2.cell? ⟨N, 1, none⟩ = some (.map (some bc)) := oN.cell 1
                      have an2 : W2.cell? ⟨N, 2, none⟩ = some (.pointer (some ⟨NB, 0, none⟩)) := oN.cell 2
                      have x0 : W2.cell? ⟨XB, 0, none⟩ = some (.bool f.m) := oX.cell 0
                      have x1 : W2.cell? ⟨XB, 1, none⟩ = some (.int .i64 f.t) := oX.cell 1
                      have x2 : W2.cell? ⟨XB, 2, none⟩ = some (.int .i64 f.l) := oX.cell 2
                      have x3 : W2.cell? ⟨XB, 3, none⟩ = some (.int .i64 f.b) := oX.cell 3
                      have x4 : W2.cell? ⟨XB, 4, none⟩ = some (.int .i64 f.q) := oX.cell 4
                      have c0 : W2.cell? ⟨w.heap.size, 0, none⟩ = some (.int .i64 r) := oC.cell 0
                      have c1 : W2.cell? ⟨w.heap.size, 1, none⟩ = some (.int .i64 c) := oC.cell 1
                      go_region_held3 (fun w' => w'.cell? ⟨N, 0, none⟩ = some (.map (some bf)) ∧ w'.cell? ⟨N, 1, none⟩ = some (.map (some bc)) ∧ w'.cell? ⟨N, 2, none⟩ = some (.pointer (some ⟨NB, 0, none⟩)) ∧ w'.cell? ⟨XB, 0, none⟩ = some (.bool f.m) ∧ w'.cell? ⟨XB, 1, none⟩ = some (.int .i64 f.t) ∧ w'.cell? ⟨XB, 2, none⟩ = some (.int .i64 f.l) ∧ w'.cell? ⟨XB, 3, none⟩ = some (.int .i64 f.b) ∧ w'.cell? ⟨XB, 4, none⟩ = some (.int .i64 f.q) ∧ w'.cell? ⟨w.heap.size, 0, none⟩ = some (.int .i64 r) ∧ w'.cell? ⟨w.heap.size, 1, none⟩ = some (.int .i64 c)) ((repeat' apply And.intro) <;> (first | (go_keep; done) | (go_simp; done))) ((go_at_call 25; refine (HRk.out _ (hs2.keep zqb)).mono ?_; rintro e wb ⟨rfl, ⟨B3, q1⟩, q2⟩; have HSb : Hid (Sy W5 wb bc NB B5 B3 (addK E r c (L1.take (k5 + 1))) (nn + (k5 + 1)) (m + (k5 + 1)) w.heap.size #[.int .i64 r, .int .i64 c]) := q1; have oXb : Own wb XB #[.bool f.m, .int .i64 f.t, .int .i64 f.l, .int .i64 f.b, .int .i64 f.q] := Own.mut (by with_reducible (repeat' first | assumption | refine Own.drew ?_ | refine Own.drewN ?_ _ | (refine Own.at ?_; first | rfl | (simp; done)) | refine Own.past ?_ _)) q2 hfr; have oNb := HN5o.out wb q1.mt; have oCb := q1.own; have nb0 : wb.cell? ⟨N, 0, none⟩ = some (.map (some bf)) := oNb.cell 0; have nb1 : wb.cell? ⟨N, 1, none⟩ = some (.map (some bc)) := oNb.cell 1; have nb2 : wb.cell? ⟨N, 2, none⟩ = some (.pointer (some ⟨NB, 0, none⟩)) := oNb.cell 2; have xb0 : wb.cell? ⟨XB, 0, none⟩ = some (.bool f.m) := oXb.cell 0; have xb1 : wb.cell? ⟨XB, 1, none⟩ = some (.int .i64 f.t) := oXb.cell 1; have xb2 : wb.cell? ⟨XB, 2, none⟩ = some (.int .i64 f.l) := oXb.cell 2; have xb3 : wb.cell? ⟨XB, 3, none⟩ = some (.int .i64 f.b) := oXb.cell 3; have xb4 : wb.cell? ⟨XB, 4, none⟩ = some (.int .i64 f.q) := oXb.cell 4; have cb0 : wb.cell? ⟨w.heap.size, 0, none⟩ = some (.int .i64 r) := oCb.cell 0; have cb1 : wb.cell? ⟨w.heap.size, 1, none⟩ = some (.int .i64 c) := oCb.cell 1; clear q1 q2))
                      go_wp2
                      exact ⟨⟨k5 + 1, B3, by go_num, by omega, (show Hid _ from (show Sy _ _ _ _ _ _ _ _ _ _ _ from HSb.out.keep zqb))⟩, by simp [intOf] <;> omega⟩
                    · have hlk6 : ¬ (k5 : Int) < n5 := by omega
                      have hk6 : L1.take k5 = L1 := List.take_of_length_le (by rw [← HN5.out]; omega)
                      have hs7 : Sy W5 wr bc NB B5 B2 (addK E r c L1) (n + n0 + ln + 1) (m + ln) w.heap.size #[.int .i64 r, .int .i64 c] := (by
                        have q := HS.out
                        rw [hk6] at q
                        have := Hnn.out
                        exact { q with to := q.to.more (by omega) (by omega) })
                      have hfin := Mid.fin HM5.out hs7 (by rw [HL1.out]; exact updE_ok HEk.out HMC.out HFl.out) (by have := Hnn.out; omega)
                      rw [HL1.out, HN0.out, HL0.out, HLn.out] at hfin
                      have HFin : Hid (DpOut w N B (updE E r c (onceR l)) (n + (E r c).length + l.length + 1) (m + l.length) wr) := hfin
                      clear hfin hs7 HS hk6
                      go_wp2
                      go_ret
                      exact ⟨rfl, HFin.out⟩
                exact AllReadyH.nil
              exact AllReadyH.nil
            · have hz' : ¬ (0 : Int) < ln := by omega
              obtain ⟨L1, eL⟩ : ∃ L1 : List Rf, L1 = [] := ⟨_, rfl⟩
              have HL1 : Hid (L1 = onceR l) := (show _ = _ by rw [eL]; exact (List.length_eq_zero_iff.1 (by have := HLn.out; have := onceR_len l; omega)).symm)
              have HM5 : Hid (Mid w w3 N bf bc NB B B1 E r c L1 (n + k) m w.heap.size #[.int .i64 r, .int .i64 c]) := (by rw [eL]; exact HMid)
              obtain ⟨nn, hnn⟩ : ∃ nn, nn = n + k := ⟨_, rfl⟩
              have Hnn : Hid (nn ≤ n + n0 + 1) := (show _ ≤ _ by omega)
              rw [← hnn] at HM5
              clear eL hnn HMid a3 b3 b4 oN3 oC3 hdel a0 b0 b1 oN
              go_wp2
              clear hz hz'
              have oN := HM5.out.oN
              have oC := HM5.out.sy.own
              have a0 : w3.cell? ⟨N, 0, none⟩ = some (.map (some bf)) := oN.cell 0
              have cC := oC.cell
              have lC := oC.lt
              obtain ⟨⟨f5, m5, r5⟩, t5⟩ := HM5.out.fm
              have k0 : (Instr.lookup 70 (.map (some bf)) (.agg #[.int .i64 r, .int .i64 c]) false).run Tryz.prog w3 = .ok (f5 r c) w3 := m5.look Tryz.underlying70 (zeroRefs w3) r c hIr hIc
              have kq := fun q => (show (Instr.lookup 70 (.map (some bf)) (.agg #[.int .i64 r, .int .i64 c]) false).run Tryz.prog (w3.drewN q) = .ok (f5 r c) (w3.drewN q) from (m5.keep (bdrewN (Below.refl _ _) q)).look Tryz.underlying70 (zeroRefs _) r c hIr hIc)
              obtain ⟨v5, hv5⟩ : ∃ v5, v5 = f5 r c := ⟨_, rfl⟩
              have r5' := r5 r c hIr hIc
              rw [← hv5] at k0 kq r5'
              have r6 : RowF w3 v5 L1 := (by have q := r5'.1; unfold updE at q; rw [if_pos ⟨rfl, rfl⟩] at q; exact q)
              have hvt : ∀ g, v5.ownBlock = some g → ¬ isTo (B1 g) := fun g q => by rw [r5'.2.2 g q]; rintro (q | q | q) <;> cases q
              have hV5 : ∀ W', Mut (fun b => isTo (B1 b)) w3 W' → RowF W' v5 L1 := fun W' hm => RowG.mut r6 hm hvt
              obtain ⟨q5, c5, rfl, hc5, hm5, _⟩ := RowG.view (sz := 5) (cs := Rf.cs) (fun _ => rfl) r6
              obtain ⟨n5, hn5⟩ : ∃ n5, n5 = L1.length := ⟨_, rfl⟩
              have hL5 : n5 ≤ ln := by rw [hn5, HL1.out]; have := onceR_len l; have := HLn.out; omega
              have HV5 : Hid (∀ W', Mut (fun b => isTo (B1 b)) w3 W' → ∀ k, k < n5 → ∃ g f, q5 = some ⟨g, 0, none⟩ ∧ L1[k]? = some f ∧ ∀ j u, (Rf.cs f)[j]? = some u → W'.cell? ⟨g, k * 5 + j, none⟩ = some u) := (show _ from fun W' hm k hk => by
                obtain ⟨q1, c1, e1, _, _, h3⟩ := RowG.view (sz := 5) (cs := Rf.cs) (fun _ => rfl) (hV5 W' hm)
                injection e1 with e1 e2 e3
                obtain ⟨g, e4, hg, hcl⟩ := h3 (by omega)
                obtain ⟨f, hf⟩ : ∃ f, L1[k]? = some f := ⟨_, List.getElem?_eq_getElem (by omega)⟩
                exact ⟨g, f, e1.trans e4, hf, hcl k f hf⟩)
              have HAdd : Hid (∀ W' B2 k f, Sy w3 W' bc NB B1 B2 (addK E r c (L1.take k)) (nn + k) (m + k) w.heap.size #[.int .i64 r, .int .i64 c] → k < n5 → L1[k]? = some f → Calls Tryz.prog 25 #[.agg #[.map (some bc), .pointer (some ⟨NB, 0, none⟩)], .agg #[.bool f.m, .int .i64 f.t, .int .i64 f.l, .int .i64 f.b, .int .i64 f.q], .agg #[.int .i64 r, .int .i64 c]] W' fun e w' => e = .returned (.tuple #[]) ∧ (∃ B3, Sy w3 w' bc NB B1 B3 (addK E r c (L1.take (k + 1))) (nn + (k + 1)) (m + (k + 1)) w.heap.size #[.int .i64 r, .int .i64 c]) ∧ Mut (fun b => isTo (B2 b)) W' w') := (show _ from fun W' B2 k f hs hk hf => by
                have hfm := List.mem_of_getElem? hf
                have hS1 : L1.Pairwise (fun x y => cmpF x y < 0) := by rw [HL1.out]; exact onceR_srt l
                have b1 := Hhn.out
                have b2 := Hnn.out
                have b3 := Hhm.out
                refine (tadd_any W' bc NB B2 _ (nn + k) (m + k) r c f hs.to (HFl.out f ((onceR_mem l f).1 (by rw [← HL1.out]; exact hfm))) HMC.out (fun q => q.elim (fun q => q.2 ⟨rfl, rfl⟩) (fun q => srt_nin hS1 hf q.2.2)) (by omega) (by omega)).mono ?_
                rintro e w' ⟨rfl, hq⟩
                obtain ⟨B3, k1⟩ := hs.step hq
                obtain ⟨B4, _, k2, _⟩ := hq
                exact ⟨rfl, ⟨B3, k1.congr (addK_next hf)⟩, k2⟩)
              rw [← hn5] at hc5 k0 kq
              have HN5 : Hid (n5 = L1.length) := hn5
              have hn5b : n5 ≤ 3000000000000 := by omega
              clear hn5 m5 r5 t5 r5' hv5 r6 hvt hV5 hm5
              go_quiet (fail)
              obtain ⟨W6, e6⟩ : ∃ W6 : World, W6 = w3.drewN nq := ⟨_, rfl⟩
              have hs6 : Sy w3 W6 bc NB B1 B1 (addK E r c (L1.take 0)) (nn + 0) (m + 0) w.heap.size #[.int .i64 r, .int .i64 c] := (by rw [e6]; exact HM5.out.sy.keep (bdrewN (Below.refl _ _) _))
              rw [← e6]
              clear e6 a0 cC lC k0 kq oN oC
              go_wp2
              go_loopw [67] (fun u w' => ∃ (k5 : Nat) (B2 : Nat → Option TagD), u = .int .i64 k5 ∧ k5 ≤ n5 ∧ Hid (Sy w3 w' bc NB B1 B2 (addK E r c (L1.take k5)) (nn + k5) (m + k5) w.heap.size #[.int .i64 r, .int .i64 c])) (fun u _ => n5 - (intOf u).toNat)
              case atStart => exact ⟨0, B1, rfl, by omega, (show Hid _ from (show Sy _ _ _ _ _ _ _ _ _ _ _ from hs6))⟩
              case round =>
                clear hs6
                obtain ⟨k5, B2, rfl, hk5, HS⟩ := hrel
                by_cases hlk5 : k5 < n5
                · have hlk6 : (k5 : Int) < n5 := by omega
                  obtain ⟨g, f, rfl, hf, hcl⟩ := HV5.out wr HS.out.mt k5 hlk5
                  have y0 : wr.cell? ⟨g, k5 * 5, none⟩ = some (.bool f.m) := hcl 0 _ rfl
                  have y1 : wr.cell? ⟨g, k5 * 5 + 1, none⟩ = some (.int .i64 f.t) := hcl 1 _ rfl
                  have y2 : wr.cell? ⟨g, k5 * 5 + 2, none⟩ = some (.int .i64 f.l) := hcl 2 _ rfl
                  have y3 : wr.cell? ⟨g, k5 * 5 + 3, none⟩ = some (.int .i64 f.b) := hcl 3 _ rfl
                  have y4 : wr.cell? ⟨g, k5 * 5 + 4, none⟩ = some (.int .i64 f.q) := hcl 4 _ rfl
                  have hglt : g < wr.heap.size := (by
                    rcases Nat.lt_or_ge g wr.heap.size with q | q
                    · exact q
                    · rw [World.cell?, Array.getElem?_eq_none q] at y0; cases y0)
                  have HRk : Hid (∀ W', Sy w3 W' bc NB B1 B2 (addK E r c (L1.take k5)) (nn + k5) (m + k5) w.heap.size #[.int .i64 r, .int .i64 c] → Calls Tryz.prog 25 #[.agg #[.map (some bc), .pointer (some ⟨NB, 0, none⟩)], .agg #[.bool f.m, .int .i64 f.t, .int .i64 f.l, .int .i64 f.b, .int .i64 f.q], .agg #[.int .i64 r, .int .i64 c]] W' fun e w' => e = .returned (.tuple #[]) ∧ (∃ B3, Sy w3 w' bc NB B1 B3 (addK E r c (L1.take (k5 + 1))) (nn + (k5 + 1)) (m + (k5 + 1)) w.heap.size #[.int .i64 r, .int .i64 c]) ∧ Mut (fun b => isTo (B2 b)) W' w') := (show _ from fun W' hs => HAdd.out W' B2 k5 f hs hlk5 hf)
                  clear hcl hf
                  go_wp2
                  obtain ⟨W2, hW2⟩ : ∃ W2 : World, W2 = wr.alloc (.cells #[.bool f.m, .int .i64 f.t, .int .i64 f.l, .int .i64 f.b, .int .i64 f.q] 53) := ⟨_, rfl⟩
                  obtain ⟨XB, hXB⟩ : ∃ XB : Nat, XB = wr.heap.size := ⟨_, rfl⟩
                  have hs2 : Sy w3 W2 bc NB B1 B2 (addK E r c (L1.take k5)) (nn + k5) (m + k5) w.heap.size #[.int .i64 r, .int .i64 c] := (by rw [hW2]; exact HS.out.keep (bal _ _))
                  have oX : Own W2 XB #[.bool f.m, .int .i64 f.t, .int .i64 f.l, .int .i64 f.b, .int .i64 f.q] := (by rw [hW2, hXB]; with_reducible (repeat' first | assumption | refine Own.drew ?_ | refine Own.drewN ?_ _ | (refine Own.at ?_; first | rfl | (simp; done)) | refine Own.past ?_ _))
                  have hfr : ¬ isTo (B2 XB) := HS.out.fresh (by rw [hXB]; exact Nat.le_refl _)
                  rw [← hW2, ← hXB]
                  clear hW2 hXB HS y0 y1 y2 y3 y4 hglt
                  have HN5o : Hid (∀ W', Mut (fun b => isTo (B1 b)) w3 W' → Own W' N #[.map (some bf), .map (some bc), .pointer (some ⟨NB, 0, none⟩)]) := (show _ from fun W' hm => HM5.out.oN.mut hm (by rw [HM5.out.NT]; rintro (q | q | q) <;> cases q))
                  have oN := HN5o.out W2 hs2.mt
                  have oC := hs2.own
                  have an0 : W2.cell? ⟨N, 0, none⟩ = some (.map (some bf)) := oN.cell 0
                  have an1 : W2.cell? ⟨N, 1, none⟩ = some (.map (some bc)) := oN.cell 1
                  have an2 : W2.cell? ⟨N, 2, none⟩ = some (.pointer (some ⟨NB, 0, none⟩)) := oN.cell 2
                  have x0 : W2.cell? ⟨XB, 0, none⟩ = some (.bool f.m) := oX.cell 0
                  have x1 : W2.cell? ⟨XB, 1, none⟩ = some (.int .i64 f.t) := oX.cell 1
                  have x2 : W2.cell? ⟨XB, 2, none⟩ = some (.int .i64 f.l) := oX.cell 2
                  have x3 : W2.cell? ⟨XB, 3, none⟩ = some (.int .i64 f.b) := oX.cell 3
                  have x4 : W2.cell? ⟨XB, 4, none⟩ = some (.int .i64 f.q) := oX.cell 4
                  have c0 : W2.cell? ⟨w.heap.size, 0, none⟩ = some (.int .i64 r) := oC.cell 0
                  have c1 : W2.cell? ⟨w.heap.size, 1, none⟩ = some (.int .i64 c) := oC.cell 1
                  go_region_held3 (fun w' => w'.cell? ⟨N, 0, none⟩ = some (.map (some bf)) ∧ w'.cell? ⟨N, 1, none⟩ = some (.map (some bc)) ∧ w'.cell? ⟨N, 2, none⟩ = some (.pointer (some ⟨NB, 0, none⟩)) ∧ w'.cell? ⟨XB, 0, none⟩ = some (.bool f.m) ∧ w'.cell? ⟨XB, 1, none⟩ = some (.int .i64 f.t) ∧ w'.cell? ⟨XB, 2, none⟩ = some (.int .i64 f.l) ∧ w'.cell? ⟨XB, 3, none⟩ = some (.int .i64 f.b) ∧ w'.cell? ⟨XB, 4, none⟩ = some (.int .i64 f.q) ∧ w'.cell? ⟨w.heap.size, 0, none⟩ = some (.int .i64 r) ∧ w'.cell? ⟨w.heap.size, 1, none⟩ = some (.int .i64 c)) ((repeat' apply And.intro) <;> (first | (go_keep; done) | (go_simp; done))) ((go_at_call 25; refine (HRk.out _ (hs2.keep zqb)).mono ?_; rintro e wb ⟨rfl, ⟨B3, q1⟩, q2⟩; have HSb : Hid (Sy w3 wb bc NB B1 B3 (addK E r c (L1.take (k5 + 1))) (nn + (k5 + 1)) (m + (k5 + 1)) w.heap.size #[.int .i64 r, .int .i64 c]) := q1; have oXb : Own wb XB #[.bool f.m, .int .i64 f.t, .int .i64 f.l, .int .i64 f.b, .int .i64 f.q] := Own.mut (by with_reducible (repeat' first | assumption | refine Own.drew ?_ | refine Own.drewN ?_ _ | (refine Own.at ?_; first | rfl | (simp; done)) | refine Own.past ?_ _)) q2 hfr; have oNb := HN5o.out wb q1.mt; have oCb := q1.own; have nb0 : wb.cell? ⟨N, 0, none⟩ = some (.map (some bf)) := oNb.cell 0; have nb1 : wb.cell? ⟨N, 1, none⟩ = some (.map (some bc)) := oNb.cell 1; have nb2 : wb.cell? ⟨N, 2, none⟩ = some (.pointer (some ⟨NB, 0, none⟩)) := oNb.cell 2; have xb0 : wb.cell? ⟨XB, 0, none⟩ = some (.bool f.m) := oXb.cell 0; have xb1 : wb.cell? ⟨XB, 1, none⟩ = some (.int .i64 f.t) := oXb.cell 1; have xb2 : wb.cell? ⟨XB, 2, none⟩ = some (.int .i64 f.l) := oXb.cell 2; have xb3 : wb.cell? ⟨XB, 3, none⟩ = some (.int .i64 f.b) := oXb.cell 3; have xb4 : wb.cell? ⟨XB, 4, none⟩ = some (.int .i64 f.q) := oXb.cell 4; have cb0 : wb.cell? ⟨w.heap.size, 0, none⟩ = some (.int .i64 r) := oCb.cell 0; have cb1 : wb.cell? ⟨w.heap.size, 1, none⟩ = some (.int .i64 c) := oCb.cell 1; clear q1 q2))
                  go_wp2
                  exact ⟨⟨k5 + 1, B3, by go_num, by omega, (show Hid _ from (show Sy _ _ _ _ _ _ _ _ _ _ _ from HSb.out.keep zqb))⟩, by simp [intOf] <;> omega⟩
                · have hlk6 : ¬ (k5 : Int) < n5 := by omega
                  have hk6 : L1.take k5 = L1 := List.take_of_length_le (by rw [← HN5.out]; omega)
                  have hs7 : Sy w3 wr bc NB B1 B2 (addK E r c L1) (n + n0 + ln + 1) (m + ln) w.heap.size #[.int .i64 r, .int .i64 c] := (by
                    have q := HS.out
                    rw [hk6] at q
                    have := Hnn.out
                    exact { q with to := q.to.more (by omega) (by omega) })
                  have hfin := Mid.fin HM5.out hs7 (by rw [HL1.out]; exact updE_ok HEk.out HMC.out HFl.out) (by have := Hnn.out; omega)
                  rw [HL1.out, HN0.out, HL0.out, HLn.out] at hfin
                  have HFin : Hid (DpOut w N B (updE E r c (onceR l)) (n + (E r c).length + l.length + 1) (m + l.length) wr) := hfin
                  clear hfin hs7 HS hk6
                  go_wp2
                  go_ret
                  exact ⟨rfl, HFin.out⟩
          exact AllReadyH.nil
end Go.Proofs.YtcjanaldjokllaaGreat
