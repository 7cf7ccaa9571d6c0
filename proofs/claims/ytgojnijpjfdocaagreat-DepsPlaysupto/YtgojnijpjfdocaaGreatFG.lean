/- The contract of deps.Edges: all references, in order. New memory alone is made. -/
import Derived.Test.YtgojnijpjfdocaaGreatFR
import Derived.Test.YtgojnijpjfdocaaGreatFW
namespace Go.Proofs.YtgojnijpjfdocaaGreat
open Go.RowKit Go.Shelf
set_option linter.all false
theorem infoEd : (Tryz.prog.info? 52).map (fun i => (i.zero, i.size, i.bytes)) = some (some (.agg #[.int .i64 0, .int .i64 0, .bool false, .int .i64 0, .int .i64 0, .int .i64 0, .int .i64 0]), 7, 56) := by kernel_rfl
/-- A list of edges, one more. -/
def ApE (w : World) : Prop := ∀ W (v : Value) (L : List Ed) vb (x : Ed), RowD W w.heap.size v L → W.heap[vb]? = some (.cells x.cs.toArray 52 (0, 0)) → w.heap.size ≤ W.heap.size → (L.length + 1) * 56 ≤ 140737488355328 → ∀ ty, ∃ v' w', (Builtin.append_ #[27, 27] ty #[v, .slice (some ⟨vb, 0, none⟩) 1 1]).run Tryz.prog W = .ok v' w' ∧ RowD w' w.heap.size v' (L ++ [x]) ∧ Below w.heap.size W w' ∧ (v'.ownBlock = v.ownBlock ∨ v'.ownBlock = some W.heap.size) ∧ Mut (fun b => v.ownBlock = some b) W w'
theorem RangeF.nodup {w : World} {b r n : Nat} {f : Int → Int → Value} {K : List Cl} {cnt : Nat} (h : RangeF w b r n f K cnt) : K.Nodup := by
  obtain ⟨D, left, h1, h2, h3, h4, h5, h6⟩ := h
  exact h5
theorem apE (w : World) : ApE w := by
  obtain ⟨i0, hi0, hz0, hzs, hzb⟩ := info_parts infoEd
  exact fun W v L vb x r1 r2 r3 r4 ty => app_one Tryz.underlying27 hi0 hz0 hzs hzb rfl (by omega) Ed.len Ed.one r1 r2 r3 r4 (by omega) ty
theorem vieF {W : World} {q : Option Addr} {nv c : Nat} {L : List Rf} (h : RowF W (.slice q nv c) L) : nv = L.length ∧ nv ≤ c ∧ ∀ k, k < nv → ∃ g f, q = some ⟨g, 0, none⟩ ∧ g < W.heap.size ∧ L[k]? = some f ∧ ∀ j u, (Rf.cs f)[j]? = some u → W.cell? ⟨g, k * 5 + j, none⟩ = some u := by
  obtain ⟨q1, c1, e1, h2, _, h3⟩ := RowG.view (sz := 5) (cs := Rf.cs) (fun _ => rfl) h
  injection e1 with e1 e2 e3
  subst e2 e3
  refine ⟨rfl, h2, fun k hk => ?_⟩
  obtain ⟨g, e4, hg, hcl⟩ := h3 (by omega)
  obtain ⟨f, hf⟩ : ∃ f, L[k]? = some f := ⟨_, List.getElem?_eq_getElem (by omega)⟩
  exact ⟨g, f, e1.trans e4, hg, hf, hcl k f hf⟩
set_option maxRecDepth 100000 in
set_option maxHeartbeats 4000000 in
theorem dedg_any (w : World) (N : Nat) (B : Nat → Option TagD) (E : Int → Int → List Rf) (n m M : Nat) (h : Dp w N B E n m) (hf : Few E M) (hM : M ≤ 2000000000000) : Calls Tryz.prog 18 #[.pointer (some ⟨N, 0, none⟩)] w fun e w' => ∃ v, e = .returned v ∧ ∃ l, RowD w' w.heap.size v l ∧ IsEdg E l ∧ Below w.heap.size w w' := by
  have mixed : Tryz.prog.follows .mixedOrders = true := by kernel_rfl
  obtain ⟨hE, hNT, hdom, bf, bc, NB, hN, ⟨⟨ff, hMp, hR⟩, hbT⟩, hT⟩ := h
  have a0 : w.cell? ⟨N, 0, none⟩ = some (.map (some bf)) := hN.cell 0
  have lN := hN.lt
  have HAP : Hid (ApE w) := (show ApE w from apE w)
  have HE : Hid (EOk E) := hE
  have HRow : Hid (∀ r c, I64 r → I64 c → RowF w (ff r c) (E r c)) := (show _ from fun r c h1 h2 => (hR r c h1 h2).1)
  have HSo : Hid (∀ W v l, RowD W w.heap.size v l → l.length ≤ 2000000000000 → Below w.heap.size w W → Calls Tryz.prog 36 #[v] W fun e w' => e = .returned (.tuple #[]) ∧ RowD w' w.heap.size v (srtL cmpD l) ∧ Below w.heap.size w w') := (show _ from fun W v l q1 q2 q3 => (sorte_any W w.heap.size v l q1 (by omega)).mono (by
    rintro e w' ⟨rfl, k1, k2⟩
    exact ⟨rfl, k1, q3.trans (k2.to_below q3.size (fun k hk => (RowG.lt q1 k hk).1))⟩))
  have HNil : Hid (∀ r c f, f ∈ E r c → ff r c ≠ nilS ∧ I64 r ∧ I64 c) := (show _ from fun r c f hf2 => by
    have hmc := mayC_is (hE.may r c f hf2).2
    have h1 : I64 r := ⟨by omega, by omega⟩
    have h2 : I64 c := ⟨by omega, by omega⟩
    refine ⟨fun q => ?_, h1, h2⟩
    have q2 := (hR r c h1 h2).1
    rw [q] at q2
    have := (vieF (q := none) (nv := 0) (c := 0) q2).1
    rw [List.length_eq_zero_iff.1 this.symm] at hf2
    cases hf2)
  have HFew : Hid (∀ K : List Cl, K.Nodup → (edL E K).length ≤ M) := (show _ from fun K hK => edL_few hf hE hK)
  have HMp : Hid (MapF w bf n ff) := hMp
  clear hE hNT hdom hN hMp hR hbT hT hf
  go_enter Tryz.func18, Tryz.ntmps18
  go_wp2_with (at_range; refine wpList_rangeF rfl _ _ _ rfl rfl (HMp.out.keep (by with_reducible (repeat' first | assumption | exact Below.refl _ _ | refine Below.drew ?_ | refine bdrewN ?_ _ | refine Below.setCell ?_ (by first | exact Nat.le_refl _ | (simp; done) | (simp; omega) | omega) _ | refine Below.alloc ?_ (by first | exact Nat.le_refl _ | (simp; done) | (simp; omega) | omega) _))) Tryz.underlying55 ?_; intro w0 cnt0 hrg0 hb0 hs0; have HG0 : Hid (RangeF w0 bf w.heap.size n ff [] cnt0) := hrg0; clear hrg0)
  go_frame
  go_loopw [3] (fun u3 w' => ∃ (K : List Cl) (cnt : Nat), Hid (RangeF w' bf w.heap.size n ff K cnt) ∧ Hid (RowD w' w.heap.size u3 (edL E K)) ∧ Below w.heap.size w w' ∧ Hid (∀ b, u3.ownBlock = some b → b ≠ w.heap.size)) (fun _ w' => w'.rangeLeft bf w.heap.size)
  case atStart => exact ⟨[], cnt0, HG0, (show RowD _ _ _ _ from RowG.nil _), hb0, (show Hid _ from fun b q => by cases q)⟩
  case round =>
    clear HG0 hb0 hs0
    obtain ⟨K, cnt, HG, HR, hB, hne⟩ := hrel
    go_wp2_with (at_next; refine wpList_nextF rfl _ rfl rfl HG.out ?_ ?_)
    · intro hdone
      have HIs : Hid (IsEdg E (srtL cmpD (edL E K))) := (show IsEdg E _ from isEdg_srt (edL_nodup HE.out HG.out.nodup) (fun e => edL_mem.trans ⟨fun q => q.2, fun q => ⟨(by obtain ⟨h1, h2, h3⟩ := HNil.out _ _ _ q; exact hdone _ _ h2 h3 h1), q⟩⟩))
      have HLn : Hid ((edL E K).length ≤ 2000000000000) := (show _ ≤ _ from Nat.le_trans (HFew.out K HG.out.nodup) hM)
      clear hdone
      go_wp2_with (go_at_call 36; refine (HSo.out _ _ _ (HR.out.keep (by with_reducible (repeat' first | assumption | exact Below.refl _ _ | refine Below.drew ?_ | refine bdrewN ?_ _ | refine Below.setCell ?_ (by first | exact Nat.le_refl _ | (simp; done) | (simp; omega) | omega) _ | refine Below.alloc ?_ (by first | exact Nat.le_refl _ | (simp; done) | (simp; omega) | omega) _))) HLn.out (by with_reducible (repeat' first | assumption | exact Below.refl _ _ | refine Below.drew ?_ | refine bdrewN ?_ _ | refine Below.setCell ?_ (by first | exact Nat.le_refl _ | (simp; done) | (simp; omega) | omega) _ | refine Below.alloc ?_ (by first | exact Nat.le_refl _ | (simp; done) | (simp; omega) | omega) _))).mono ?_; rintro e wa ⟨rfl, q1, q2⟩; have HRa : Hid (RowD wa w.heap.size u3 (srtL cmpD (edL E K))) := q1; have hBa : Below w.heap.size w wa := q2; clear q1 q2)
      go_ret
      exact ⟨_, rfl, _, HRa.out, HIs.out, hBa⟩
    · intro x y w1 cnt1 hx hy hnK hnl hrg1 hlt hmu hs1 hen
      have hle := HG.out.left_eq
      have hB1 : Below w.heap.size w w1 := hB.trans (hmu.to_below hB.size (fun k hk => by rw [hk]; exact Nat.le_refl _))
      have HG1 : Hid (RangeF w1 bf w.heap.size n ff (K ++ [⟨x, y⟩]) cnt1) := hrg1
      have HR1 : Hid (RowD w1 w.heap.size u3 (edL E K)) := (show RowD _ _ _ _ from HR.out.mut hmu (fun g q => hne.out g q))
      have hne1 : Hid (∀ b, u3.ownBlock = some b → b < w1.heap.size) := (show ∀ b, u3.ownBlock = some b → b < w1.heap.size from fun b q => (HR1.out.lt b q).2)
      have hrow := HRow.out x y hx hy
      obtain ⟨qv, nv, cv, hv⟩ := RowG.sl hrow
      rw [hv] at hrow hen
      obtain ⟨v1, v2, v3⟩ := vieF hrow
      have HV : Hid _ := v3
      obtain ⟨L, hL⟩ : ∃ L, L = E x y := ⟨_, rfl⟩
      have HL : Hid (L = E x y) := hL
      rw [← hL] at v1 HV
      have HN : Hid (nv = L.length) := v1
      have HK : Hid (edL E (K ++ [⟨x, y⟩]) = edL E K ++ L.map (Ed.mk x y)) := (show _ = _ by rw [edL_app, hL])
      have HLn : Hid ((edL E K).length + nv ≤ 2000000000000) := (show _ ≤ _ by
        have q := HFew.out _ HG1.out.nodup
        rw [HK.out, List.length_append, List.length_map, ← HN.out] at q
        exact Nat.le_trans q hM)
      have hnv : nv ≤ 9223372036854775807 := by have := HLn.out; omega
      clear hrow hv v1 v3 hL hrg1 HR HG hmu hnK hnl
      have zB1 := hB1.size
      go_wp2
      obtain ⟨W2, hW2⟩ : ∃ W2 : World, W2 = w1.alloc (.cells #[.int .i64 x, .int .i64 y] 33) := ⟨_, rfl⟩
      obtain ⟨cb, hcb⟩ : ∃ cb, cb = wr.heap.size := ⟨_, rfl⟩
      have hcw : cb = w1.heap.size := by rw [hcb, hs1]
      have oC2 : Own W2 cb #[.int .i64 x, .int .i64 y] := (by rw [hW2, hcw]; with_reducible (repeat' first | assumption | refine Own.drew ?_ | refine Own.drewN ?_ _ | (refine Own.at ?_; first | rfl | (simp; done)) | refine Own.past ?_ _))
      have hB2 : Below w.heap.size w W2 := (by rw [hW2]; with_reducible (repeat' first | assumption | exact Below.refl _ _ | refine Below.drew ?_ | refine bdrewN ?_ _ | refine Below.setCell ?_ (by first | exact Nat.le_refl _ | (simp; done) | (simp; omega) | omega) _ | refine Below.alloc ?_ (by first | exact Nat.le_refl _ | (simp; done) | (simp; omega) | omega) _))
      have hB12 : Below w1.heap.size w1 W2 := (by rw [hW2]; with_reducible (repeat' first | assumption | exact Below.refl _ _ | refine Below.drew ?_ | refine bdrewN ?_ _ | refine Below.setCell ?_ (by first | exact Nat.le_refl _ | (simp; done) | (simp; omega) | omega) _ | refine Below.alloc ?_ (by first | exact Nat.le_refl _ | (simp; done) | (simp; omega) | omega) _))
      have HG2 : Hid (RangeF W2 bf w.heap.size n ff (K ++ [⟨x, y⟩]) cnt1) := (show RangeF _ _ _ _ _ _ _ from HG1.out.keep hB12)
      have HR2 : Hid (RowD W2 w.heap.size u3 (edL E K)) := (show RowD _ _ _ _ from HR1.out.keep hB12)
      have hne2 : Hid (∀ b, u3.ownBlock = some b → b ≠ w.heap.size ∧ b ≠ cb) := (show ∀ b, u3.ownBlock = some b → b ≠ w.heap.size ∧ b ≠ cb from fun b q => ⟨hne.out b q, by have := hne1.out b q; omega⟩)
      have hwc : w.heap.size < cb := by have := HG1.out.lt; omega
      have hrne := HG1.out.ne
      have hbl : bf < w.heap.size := HMp.out.lt
      rw [← hW2, ← hcb]
      clear hW2 hcb hcw hB12 HG1 HR1 hne1 hne hB hB1 hs1 zB1 hen
      go_loopw [3, 20] (fun u v w' => ∃ k : Nat, v = .int .i64 k ∧ k ≤ nv ∧ Hid (RowD w' w.heap.size u (edL E K ++ (L.take k).map (Ed.mk x y))) ∧ Below w.heap.size w w' ∧ Own w' cb #[.int .i64 x, .int .i64 y] ∧ Hid (RangeF w' bf w.heap.size n ff (K ++ [⟨x, y⟩]) cnt1) ∧ Hid (∀ b, u.ownBlock = some b → b ≠ w.heap.size ∧ b ≠ cb)) (fun _ v _ => nv - (intOf v).toNat)
      case atStart => exact ⟨0, rfl, by omega, (show RowD _ _ _ _ from by rw [List.take_zero, List.map_nil, List.append_nil]; exact HR2.out), hB2, oC2, HG2, hne2⟩
      case round =>
        obtain ⟨k, rfl, hk, HRk, hBk, oC, HGk, hnek⟩ := hrel
        by_cases hlk : k < nv
        · have hlk' : (k : Int) < nv := by omega
          obtain ⟨g, f, rfl, hg, hf, hc⟩ := HV.out k hlk
          have y0 : wr.cell? ⟨g, k * 5, none⟩ = some (.bool f.m) := (hBk.cell (p := ⟨g, k * 5, none⟩) hg).trans (hc 0 _ rfl)
          have y1 : wr.cell? ⟨g, k * 5 + 1, none⟩ = some (.int .i64 f.t) := (hBk.cell (p := ⟨g, k * 5 + 1, none⟩) hg).trans (hc 1 _ rfl)
          have y2 : wr.cell? ⟨g, k * 5 + 2, none⟩ = some (.int .i64 f.l) := (hBk.cell (p := ⟨g, k * 5 + 2, none⟩) hg).trans (hc 2 _ rfl)
          have y3 : wr.cell? ⟨g, k * 5 + 3, none⟩ = some (.int .i64 f.b) := (hBk.cell (p := ⟨g, k * 5 + 3, none⟩) hg).trans (hc 3 _ rfl)
          have y4 : wr.cell? ⟨g, k * 5 + 4, none⟩ = some (.int .i64 f.q) := (hBk.cell (p := ⟨g, k * 5 + 4, none⟩) hg).trans (hc 4 _ rfl)
          have c0 : wr.cell? ⟨cb, 0, none⟩ = some (.int .i64 x) := oC.cell 0
          have c1 : wr.cell? ⟨cb, 1, none⟩ = some (.int .i64 y) := oC.cell 1
          have z := hBk.size
          have lC := oC.lt
          have hgl : g < wr.heap.size := by omega
          have HT : Hid (edL E K ++ (L.take (k + 1)).map (Ed.mk x y) = (edL E K ++ (L.take k).map (Ed.mk x y)) ++ [Ed.mk x y f]) := (show _ = _ by rw [List.take_succ, hf, List.map_append, ← List.append_assoc]; rfl)
          have HLk : Hid ((edL E K ++ (L.take k).map (Ed.mk x y)).length + 1 ≤ 2000000000001) := (show _ ≤ _ by have h1 := HLn.out; have h2 := HN.out; simp only [List.length_append, List.length_map, List.length_take]; omega)
          clear hf hc
          go_wp2_with (at_builtin; refine wpList_appx rfl _ _ _ _ rfl _ (.slice (some ⟨wr.heap.size + 1, 0, none⟩) 1 1) rfl rfl (HAP.out _ _ _ (wr.heap.size + 1) ⟨x, y, f⟩ (RowG.keep HRk.out (by with_reducible (repeat' first | assumption | exact Below.refl _ _ | refine Below.drew ?_ | refine bdrewN ?_ _ | refine Below.setCell ?_ (by first | exact Nat.le_refl _ | (simp; done) | (simp; omega) | omega) _ | refine Below.alloc ?_ (by first | exact Nat.le_refl _ | (simp; done) | (simp; omega) | omega) _))) (heap_at (by simp)) (by simp; omega) (by have := HLk.out; omega)) (fun v' w3 hq => ?_); obtain ⟨r1, r2, r3, r4⟩ := hq; have R1 : Hid _ := r1; have R2 : Below w.heap.size w w3 := (show Below w.heap.size w _ from by with_reducible (repeat' first | assumption | exact Below.refl _ _ | refine Below.drew ?_ | refine bdrewN ?_ _ | refine Below.setCell ?_ (by first | exact Nat.le_refl _ | (simp; done) | (simp; omega) | omega) _ | refine Below.alloc ?_ (by first | exact Nat.le_refl _ | (simp; done) | (simp; omega) | omega) _)).trans r2; have R3 : Hid (∀ b, v'.ownBlock = some b → b ≠ w.heap.size ∧ b ≠ cb) := (show ∀ b, v'.ownBlock = some b → b ≠ w.heap.size ∧ b ≠ cb from fun b q => by rcases r3 with s | s; exact hnek.out b (s.symm.trans q); rw [s] at q; injection q with q; simp at q; omega); have oC3 : Own w3 cb #[.int .i64 x, .int .i64 y] := Own.mut (by with_reducible (repeat' first | assumption | refine Own.drew ?_ | refine Own.drewN ?_ _ | (refine Own.at ?_; first | rfl | (simp; done)) | refine Own.past ?_ _)) r4 (fun q => (hnek.out cb q).2 rfl); have HG3 : Hid (RangeF w3 bf w.heap.size n ff (K ++ [⟨x, y⟩]) cnt1) := (show RangeF _ _ _ _ _ _ _ from (HGk.out.keep (by with_reducible (repeat' first | assumption | exact Below.refl _ _ | refine Below.drew ?_ | refine bdrewN ?_ _ | refine Below.setCell ?_ (by first | exact Nat.le_refl _ | (simp; done) | (simp; omega) | omega) _ | refine Below.alloc ?_ (by first | exact Nat.le_refl _ | (simp; done) | (simp; omega) | omega) _))).mut r4 (fun q => by have := (HRk.out.lt _ q).1; omega) (fun q => (hnek.out _ q).1 rfl)); clear r1 r2 r3 r4)
          all_goals exact ⟨⟨k + 1, by go_num, by omega, (show RowD _ _ _ _ from by rw [HT.out]; exact R1.out), R2, oC3, HG3, R3⟩, by simp [intOf] <;> omega⟩
        · have hkn : k = nv := by omega
          subst hkn
          have HR4 : Hid (RowD wr w.heap.size u3 (edL E (K ++ [⟨x, y⟩]))) := (show RowD _ _ _ _ from by rw [HK.out]; have q := HRk.out; rw [HN.out, List.take_length] at q; exact q)
          go_wp2
          exact ⟨⟨K ++ [⟨x, y⟩], cnt1, HGk, HR4, hBk, (show Hid _ from fun b q => (hnek.out b q).1)⟩, by rw [HGk.out.left_eq, hle]; exact hlt⟩
end Go.Proofs.YtgojnijpjfdocaaGreat
