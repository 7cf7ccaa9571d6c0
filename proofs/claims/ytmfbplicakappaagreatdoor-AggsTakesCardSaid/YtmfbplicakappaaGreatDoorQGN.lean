/- The contract of aggs.numbersOf: the numbers among the items. New memory alone is made. -/
import Derived.Test.YtmfbplicakappaaGreatDoorQGJ
import Derived.Test.YtmfbplicakappaaGreatDoorQGTw
namespace Go.Proofs.YtmfbplicakappaaGreatDoor
open Go.Shelf Go.RowKit
set_option linter.all false
attribute [local go_sem] Oper.semAt_some
/-- The numbers among some items. -/
def numsI (l : List It) : List Int := (l.filter (fun x => x.t == 1)).map (·.n)
theorem numsI_snoc {l : List It} {i : Nat} {x : It} (h : l[i]? = some x) : numsI (l.take (i + 1)) = numsI (l.take i) ++ (if x.t == 1 then [x.n] else []) := by
  unfold numsI
  rw [List.take_succ, h, Option.toList_some, List.filter_append, List.map_append]
  congr 1
  simp only [List.filter_cons, List.filter_nil]
  split <;> rfl
theorem numsI_len (l : List It) : (numsI l).length ≤ l.length := by
  unfold numsI; rw [List.length_map]; exact List.length_filter_le ..
def FtN (b : Nat) (u : Value) : Nat → Prop := fun q => q = b ∨ u.ownBlock = some q
theorem turnN {b : Nat} {v v' : Value} {W2 w3 X : World} {o : Obj} (hg : (W2.alloc o).grownBy w3 v.ownBlock) (hlt : b < W2.heap.size) (hblk : v'.ownBlock = v.ownBlock ∨ v'.ownBlock = some (W2.alloc o).heap.size) (hv' : ∀ g, v'.ownBlock = some g → g < w3.heap.size)
    (x1 : X.os = w3.os) (x2 : X.tape = w3.tape) (x3 : X.output = w3.output) (x4 : X.heap.size = w3.heap.size) (x5 : ∀ x, x ≠ b → X.heap[x]? = w3.heap[x]?) : Turn (FtN b v) (FtN b v') W2 X := by
  have hz := hg.size
  rw [World.size_alloc] at hz
  refine ⟨x1.trans hg.os, x2.trans hg.tape, x3.trans hg.output, by omega, fun k hk hn => ?_, fun k hk => ?_⟩
  · rw [x5 k (fun e => hn (.inl e))]
    exact (hg.block k (by rw [World.size_alloc]; omega) (fun e => hn (.inr e.symm))).trans (Below.heap_alloc W2 _ k hk)
  · rw [x4]
    rcases hk with h | h
    · exact ⟨.inl (.inl h), by omega⟩
    · refine ⟨?_, hv' k h⟩
      rcases hblk with e | e
      · rw [e] at h; exact .inl (.inr h)
      · rw [e] at h; injection h with h; rw [World.size_alloc] at h; exact .inr (by omega)
set_option maxHeartbeats 4000000 in
set_option maxRecDepth 100000 in
theorem nof_any (w : World) (v : Value) (L : List (Ag × List En)) (hv : AV w v (L.map Prod.fst)) (h40 : L.length ≤ 1099511627776) (hE : Hid (∀ p ∈ L, AgE w p)) (hM : (itms L).length ≤ 1099511627776) :
    Calls Tryz.prog 111 #[v] w fun e w' => (∃ u, e = .returned u ∧ Row icell 1 2 w' w.heap.size u (numsI (itms L))) ∧ Below w.heap.size w w' := by
  obtain ⟨i0, hi, hz0, hz1, hz2⟩ := info_parts infoI64
  have HI : Hid _ := hi
  have HZ0 : Hid _ := hz0
  have HZ1 : Hid _ := hz1
  have HZ2 : Hid _ := hz2
  clear hi hz0 hz1 hz2
  have hsl : ∃ q n c, v = .slice q n c := by obtain ⟨q, c, e, _⟩ := hv; exact ⟨q, _, c, e⟩
  obtain ⟨vq, vn, vc, rfl⟩ := hsl
  refine (callsIn_wide (n := 9)).1 ?_
  refine callsIn_of_wp_marks Tryz.func111 rfl trivial ?_ rfl
  simp only [Tryz.ntmps111, List.size_toArray, List.length_cons, List.length_nil, Nat.reduceAdd, Nat.reduceSub, Array.replicate_succ, Array.replicate_zero, List.push_toArray, List.append_toArray, List.nil_append, List.cons_append]
  have hlm := fun w => items_mk vq vn vc w
  gi_wp2_with (refine ⟨trivial, ?_⟩; gi_at_call 61; refine (callsIn_wide.2 (hlm _)).mono ?_; rintro e w1 ⟨rfl, rfl⟩)
  clear hlm
  obtain ⟨b, hb⟩ : ∃ b, w.heap.size = b := ⟨_, rfl⟩
  obtain ⟨V, hV⟩ : ∃ V, ((w.alloc (.cells #[.slice none 0 0] 42)).alloc (.cells #[.slice vq vn vc] 22)) = V := ⟨_, rfl⟩
  have v0 : Own V b #[.slice none 0 0] := by rw [← hV, ← hb]; exact (Own.new _ _ _).past _
  have v2 : Own V (b + 1) #[.slice vq vn vc] := by rw [← hV, ← hb]; exact Own.at (by simp)
  have hVs : V.heap.size = b + 2 := by rw [← hV, ← hb]; simp
  have hBV : Below b w V := by
    rw [← hV, ← hb]
    exact ((Below.refl _ w).alloc (Nat.le_refl _) _).alloc (by simp) _
  rw [hV, hb]
  have hgv := items_gives L (b + 1) w V (.slice vq vn vc) (v2.cell 0) hv h40 hE.out (fun q hq => hBV.block q (by omega))
  have HGV : Hid _ := hgv
  have HM : Hid _ := hM
  clear hV hgv hM
  refine range_out (gf := 104) (lb := #[.pointer (some ⟨b + 1, 0, none⟩)]) rfl (enters_of Tryz.func104 (by kernel_rfl) rfl)
    HGV.out (fun _ => rfl) (FtN b (.slice none 0 0)) ?own ?F0
    (fun k Ft A => ∃ u, Own A b #[u] ∧ Row icell 1 2 A (b + 2) u (numsI ((itms L).take k)) ∧ Ft = FtN b u ∧ Below b w A)
    (fun c k Ft A => False)
    ?hI ?hIx ?h0 ?round ?done ?stop
  case own =>
    rintro k (rfl | hk)
    · exact ⟨rfl, by rintro (h | h); omega; simp [Value.ownBlock] at h, by omega⟩
    · exact ⟨rfl, by rintro (h | h); omega; simp [Value.ownBlock] at h, by omega⟩
  case F0 => rintro k (h | h); omega; simp [Value.ownBlock] at h
  case hI =>
    rintro k Ft A A' ⟨u, o0, hR, rfl, hB⟩ hk
    have hsm : ∀ x, x < b + 2 → x < A.heap.size → A'.heap[x]? = A.heap[x]? := fun x h1 h2 => hk.block x h2 (.inl (by omega))
    exact ⟨u, o0.of_block (hsm _ (by omega) o0.lt), hR.of_block (fun g hg => hk.block g (hR.lt g hg).2 (.inr (.inr hg))), rfl, hB.trans ⟨hk.os, hk.tape, hk.output, hk.size, fun x hx => hsm x (by omega) (by have := o0.lt; omega)⟩⟩
  case hIx => rintro c k Ft A A' h; exact h.elim
  case h0 => exact ⟨_, v0, Row.nil _ _, rfl, hBV⟩
  case stop => rintro D c k Ft A hD hDA hk h; exact h.elim
  case done =>
    rintro D Ft A hD hDA ⟨u, o0, hR, rfl, hB⟩ hFD hlt hfr hK
    obtain ⟨up, uc, hu, _, _⟩ := Row.slice hR
    obtain ⟨m, hm⟩ : ∃ m, (numsI ((itms L).take (itms L).length)).length = m := ⟨_, rfl⟩
    rw [hm] at hu
    subst hu
    have c0 := o0.cell
    have l0 := o0.lt
    have HK : Hid _ := hK
    have HR : Hid (Row icell 1 2 A (b + 2) (.slice up m uc) (numsI ((itms L).take (itms L).length))) := hR
    clear hK hR
    gi_wp2
    refine ⟨by simp, .inl ⟨_, _, rfl, run_takeDeferred HK.out, ?_⟩⟩
    refine ⟨.slice up m uc, by simp [results, Tryz.results111, go_sem], ⟨_, rfl, ?_⟩, below_putObj hB (by omega) _⟩
    have q := HR.out
    rw [List.take_length] at q
    refine Row.mono (Row.of_block q (fun g hg => ?_)) (show b ≤ b + 2 by omega)
    exact World.putObj_heap_other (fun e => hFD (.inr (by rw [← e]; exact hg)))
  case round =>
    rintro L' k x Ft A hx ⟨u, o0, hR, rfl, hB⟩ hL hLA hFL hlt hfr
    obtain ⟨up, uc, hu, _, _⟩ := Row.slice hR
    obtain ⟨m, hm⟩ : ∃ m, (numsI ((itms L).take k)).length = m := ⟨_, rfl⟩
    rw [hm] at hu
    subst hu
    unfold encI
    dsimp only
    gi_wp2
    refine ⟨bal _ _, fun W2 hset r hr => ?_⟩
    have hTL : A.heap.size ≠ L' := by omega
    have oT : Own W2 A.heap.size #[.int .i64 x.t, .int .i64 x.n, .string x.s, .bool x.b, .int .i64 x.c] := (Own.new A #[.int .i64 x.t, .int .i64 x.n, .string x.s, .bool x.b, .int .i64 x.c] 26).of_block (hset.block _ hTL)
    have hAW : ∀ y, y < A.heap.size → y ≠ L' → W2.heap[y]? = A.heap[y]? := fun y h1 h2 => (hset.block y h2).trans (Below.heap_alloc A _ y h1)
    replace o0 := o0.of_block (hAW _ o0.lt (by omega))
    have hRW : Row icell 1 2 W2 (b + 2) (.slice up m uc) (numsI ((itms L).take k)) := hR.of_block (fun g hg => hAW g (hR.lt g hg).2 (fun e => hFL (.inr (by rw [← e]; exact hg))))
    have hz : W2.heap.size = A.heap.size + 1 := by rw [hset.size]; simp
    have hBW : Below b w W2 := hB.trans ⟨hset.os, hset.tape, hset.output, by omega, fun y hy => hAW y (by omega) (by omega)⟩
    have hmk : m ≤ 1099511627776 := by
      rw [← hm]
      exact Nat.le_trans (numsI_len _) (Nat.le_trans (by rw [List.length_take]; exact Nat.min_le_right _ _) HM.out)
    have hsn := numsI_snoc hx
    have HX : Hid _ := hx
    have HSN : Hid _ := hsn
    have HMM : Hid _ := hm
    have HRW : Hid (Row icell 1 2 W2 (b + 2) (.slice up m uc) (numsI ((itms L).take k))) := hRW
    clear hset hr r hB hx hR hsn hm hRW
    have c0 := o0.cell
    have f0 := o0.fro
    have l0 := o0.lt
    have cT := oT.cell
    have lT := oT.lt
    have HZ : Hid _ := hz
    clear hz
    have hFW : ∀ q, FtN b (.slice up m uc) q → q < W2.heap.size := by
      rintro q (h | h)
      · omega
      · exact (HRW.out.lt q h).2
    cases hs : (x.t == 1)
    · have HS : Hid _ := hs
      gi_wp2
      refine ⟨FtN b (.slice up m uc), Turn.same hFW, _, o0, ?_, rfl, hBW⟩
      rw [HSN.out, HS.out]
      simp only [Bool.false_eq_true, if_false, List.append_nil]
      exact HRW.out
    · have HS : Hid _ := hs
      have hrow : Hid (W2.ownsRow (b + 2) 2 1 (.slice up m uc) m (flatC icell (numsI ((itms L).take k)))) := (show W2.ownsRow (b + 2) 2 1 (.slice up m uc) m (flatC icell (numsI ((itms L).take k))) from by have h := HRW.out; unfold Row at h; rw [HMM.out] at h; exact h)
      have hne : ∀ y, y < b + 2 → (Value.slice up m uc).ownBlock ≠ some y := fun y hy e => by have := (HRW.out.lt y e).1; omega
      gi_wp2_with (gi_at_builtin; refine wpListIn_append_own_at _ rfl _ _ 42 rfl (b + 2) 2 i0 _ 1 8 Tryz.underlying42 HI.out HZ0.out HZ1.out HZ2.out rfl (by decide) _ m (flatC icell (numsI ((itms L).take k))) rfl (hrow.out.alloc _) ⟨W2.heap.size, 0, none⟩ 1 1 (icell x.n).toList rfl rfl (by exact news_pl _ _ _) (icell_one _) (by unfold maxLen; omega) (by omega) (by have := HZ.out; simp; omega) ?_; intro v' w3 hown' hgrow _ hblk; obtain ⟨g', cap', rfl⟩ := ownsRow_succ hown'; have hg3 : ∀ x, x < W2.heap.size → (Value.slice up m uc).ownBlock ≠ some x → w3.heap[x]? = W2.heap[x]? := (fun x h1 h2 => (hgrow.block x (by simp; omega) (fun e => h2 e.symm)).trans (Below.heap_alloc W2 _ x h1)); have p0 := o0.of_block (hg3 _ l0 (hne _ (by omega))); have q0 := p0.cell; have g0 := p0.fro; have m0 := p0.lt; have HG : Hid _ := hg3; have HGR : Hid _ := hgrow; have HOW : Hid _ := hown'; clear hg3 hgrow hown')
      have hz := HZ.out
      have hTn : Row icell 1 2 w3 (b + 2) (.slice (some ⟨g', 0, none⟩) (m + 1) cap') (numsI ((itms L).take (k + 1))) := by
        rw [HSN.out, HS.out]
        simp only [if_true]
        unfold Row
        rw [List.length_append, HMM.out, flatC_snoc]
        exact HOW.out
      have hB3 : Below b w w3 := hBW.trans ⟨HGR.out.os, HGR.out.tape, HGR.out.output, by have := HGR.out.size; rw [World.size_alloc] at this; omega, fun y hy => HG.out y (by omega) (hne y (by omega))⟩
      refine ⟨FtN b (.slice (some ⟨g', 0, none⟩) (m + 1) cap'), turnN HGR.out (by omega) hblk (fun g hg => (hTn.lt g hg).2) rfl rfl rfl (by rw [set_size]) (fun y h1 => set_other h1), _, own_put1 p0, ?_, rfl, ?_⟩
      · refine hTn.of_block (fun g hg => ?_)
        have := (hTn.lt g hg).1
        exact set_other (by show g ≠ b; omega)
      · exact hB3.setCell (p := ⟨b, 0, none⟩) (Nat.le_refl _) _
end Go.Proofs.YtmfbplicakappaaGreatDoor
