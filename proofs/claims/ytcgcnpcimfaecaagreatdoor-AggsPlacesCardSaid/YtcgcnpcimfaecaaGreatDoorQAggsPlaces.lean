/- AggsPlaces: of every argument and every number: of a rectangle that may be, and an entry of it that the number tells, INDEX at its row and column is its value, MATCH tells a place at which it stands, no later than its own (and its own, if no entry ahead has the same value and it is not Blank), and LOOKUP is its value, as the program's Call tells; the law's known calls are answered as they are written there: the law returns true, and its argument reads as before. The condition: the tables of the library's package variables lie as laid. -/
import Derived.Test.YtcgcnpcimfaecaaGreatDoorQGV
import Derived.Test.YtcgcnpcimfaecaaGreatDoorQGM8
import Derived.Test.YtcgcnpcimfaecaaGreatDoorQGM9
import Derived.Test.YtcgcnpcimfaecaaGreatDoorQGY1
namespace Go.Proofs.YtcgcnpcimfaecaaGreatDoor.aggsPlaces
open Go.Shelf Go.RowKit Go.ChangeShapes Go.WideShapes Go.ChangeAt
set_option linter.all false
theorem parts_of (t n : Int) (s : ByteArray) (b : Bool) (c r0 r1 r2 r3 : Int) (ep : Option Addr) (en ec : Nat) (es : List En) (hm : mnB ((⟨true, t, n, s, b, c, r0, r1, r2, r3, ep, en, ec⟩ : Ag), es) = false) : Ad.mayR r0 r1 r2 r3 = true ∧ entsB r0 r1 r2 r3 es = true := by
  simp only [mnB, if_true] at hm
  cases q1 : vz5 t n s b c
  · rw [q1] at hm; cases hm
  cases q2 : Ad.mayR r0 r1 r2 r3
  · rw [q1, q2] at hm; cases hm
  cases q3 : entsB r0 r1 r2 r3 es
  · rw [q1, q2, q3] at hm; cases hm
  exact ⟨rfl, rfl⟩
theorem places_at (t n : Int) (s : ByteArray) (b : Bool) (c r0 r1 r2 r3 : Int) (g o en ec : Nat) (es : List En) (wh : Int) (k : Nat) (x : En) (w : World) (hgl : g < w.heap.size) (HAL : ∀ i y, es[i]? = some y → ∀ j, j < 7 → w.cell? ⟨g, o + i * 7 + j, none⟩ = (En.cells y)[j]?) (hE : AgE w ((⟨true, t, n, s, b, c, r0, r1, r2, r3, some ⟨g, o, none⟩, en, ec⟩ : Ag), es)) (hn : es.length = en) (hx : es[k]? = some x) (hec : en ≤ ec) (hm : mnB ((⟨true, t, n, s, b, c, r0, r1, r2, r3, some ⟨g, o, none⟩, en, ec⟩ : Ag), es) = false) (hsz : x.s.size ≤ 281474976710656) (hr : wh.tmod (en : Int) = (k : Int) ∨ wh.tmod (en : Int) = (k : Int) - en) : Calls Tryz.prog 8 #[.agg #[.bool true, .int .i64 t, .int .i64 n, .string s, .bool b, .int .i64 c, .int .i64 r0, .int .i64 r1, .int .i64 r2, .int .i64 r3, .slice (some ⟨g, o, none⟩) en ec], .int .i64 wh] w fun e w' => e = .returned (.bool true) ∧ Below w.heap.size w w' := by
  obtain ⟨hR, hes⟩ := parts_of t n s b c r0 r1 r2 r3 (some ⟨g, o, none⟩) en ec es hm
  have hri := Ad.mayR_is hR
  have h1 : 0 ≤ r0 := by omega
  have h2 : r0 ≤ r2 := by omega
  have h3 : r2 ≤ 1048576 := by omega
  have h4 : 0 ≤ r1 := by omega
  have h5 : r1 ≤ r3 := by omega
  have h6 : r3 ≤ 1048576 := by omega
  have hk : k < en := by have := (List.getElem?_eq_some_iff.1 hx).1; omega
  have h0 : 0 < es.length := by omega
  have hp := ent_parts ((ents_all r0 r1 r2 r3 es).1 hes k x hx)
  obtain ⟨⟨b1, b2, b3, b4⟩, hmay⟩ := hp
  have hS : OrdE es := ord_of hes
  have hnx : I64 x.n := hE.en x (List.mem_of_getElem? hx)
  have ha1 : ((r2 - r0 + 1) * (r3 - r1 + 1)) ≤ 4096 * 256 := Int.mul_le_mul (by omega) (by omega) (by omega) (by omega)
  have h40 : ((r2 - r0 + 1) * (r3 - r1 + 1)) ≤ 549755813888 := by omega
  have hL : lineB r0 r1 r2 r3 = true → Ln r0 r1 r2 r3 es := fun h => ⟨h, fun y hy => by
    obtain ⟨j, hj⟩ := List.getElem?_of_mem hy
    exact (ent_parts ((ents_all r0 r1 r2 r3 es).1 hes j y hj)).1, hS⟩
  have HI : (∀ (W : World) (v : Value), AV W v [(⟨true, t, n, s, b, c, r0, r1, r2, r3, some ⟨g, o, none⟩, en, ec⟩ : Ag), oneW (x.r - r0 + 1), oneW (x.k - r1 + 1)] → Below w.heap.size w W → Calls Tryz.prog 9 #[.string ⟨#[73, 78, 68, 69, 88]⟩, v, .int .i64 0] W fun e w' => e = .returned (.agg #[.int .i64 x.t, .int .i64 x.n, .string x.s, .bool x.b, .int .i64 x.c]) ∧ Below W.heap.size W w') := fun W v hv hb => index_call W v (⟨true, t, n, s, b, c, r0, r1, r2, r3, some ⟨g, o, none⟩, en, ec⟩ : Ag) es (x.r - r0 + 1) (x.k - r1 + 1) x rfl hv (hE.keep hb) hm hS h1 h2 h3 h4 h5 h6 (by omega) (show x.r - r0 + 1 ≤ r2 - r0 + 1 by omega) (by omega) (show x.k - r1 + 1 ≤ r3 - r1 + 1 by omega) (by show atE es (r0 + (x.r - r0 + 1) - 1) (r1 + (x.k - r1 + 1) - 1) = x; rw [show r0 + (x.r - r0 + 1) - 1 = x.r by omega, show r1 + (x.k - r1 + 1) - 1 = x.k by omega]; exact atE_at hS hx rfl rfl) hsz
  obtain ⟨mt, mn, ms, mb, mc, HM, HF4, HFn, HFl⟩ : ∃ (mt mn : Int) (ms : ByteArray) (mb : Bool) (mc : Int), (∀ (W : World) (v : Value), AV W v [oneV x.t x.n x.s x.b x.c, (⟨true, t, n, s, b, c, r0, r1, r2, r3, some ⟨g, o, none⟩, en, ec⟩ : Ag)] → Below w.heap.size w W → Calls Tryz.prog 9 #[.string ⟨#[77, 65, 84, 67, 72]⟩, v, .int .i64 0] W fun e w' => e = .returned (.agg #[.int .i64 mt, .int .i64 mn, .string ms, .bool mb, .int .i64 mc]) ∧ Below W.heap.size W w') ∧ (x.t = 4 → mt = x.t ∧ mn = x.n ∧ ms = x.s ∧ mb = x.b ∧ mc = x.c) ∧ (¬ x.t = 4 → lineB r0 r1 r2 r3 = false → mt = 4 ∧ mn = 0 ∧ ms = ⟨#[]⟩ ∧ mb = false ∧ mc = 8) ∧ (¬ x.t = 4 → lineB r0 r1 r2 r3 = true → ∃ q : Nat, mt = 1 ∧ mn = ((q : Int) + 1) * 10000 ∧ ms = ⟨#[]⟩ ∧ mb = false ∧ mc = 0 ∧ Ln r0 r1 r2 r3 es ∧ At1 r0 r1 r2 r3 es x.t x.n x.s x.b x.c q ∧ (q : Int) ≤ plE r0 r1 x) := by
    by_cases ht : x.t = 4
    · refine ⟨x.t, x.n, x.s, x.b, x.c, fun W v hv hb => ?_, fun _ => ⟨rfl, rfl, rfl, rfl, rfl⟩, fun h => absurd ht h, fun h => absurd ht h⟩
      rw [ht] at hv ⊢
      exact match_fault W v (⟨true, t, n, s, b, c, r0, r1, r2, r3, some ⟨g, o, none⟩, en, ec⟩ : Ag) es x.n x.s x.b x.c rfl hv (hE.keep hb) hm hnx (by rw [← ht]; exact hmay)
    · cases hl : lineB r0 r1 r2 r3
      · exact ⟨4, 0, ⟨#[]⟩, false, 8, fun W v hv hb => match_none W v (⟨true, t, n, s, b, c, r0, r1, r2, r3, some ⟨g, o, none⟩, en, ec⟩ : Ag) es x.t x.n x.s x.b x.c rfl hv (hE.keep hb) hm hnx hmay ht h1 h2 h3 h4 h5 h6 hl, fun h => absurd h ht, fun _ _ => ⟨rfl, rfl, rfl, rfl, rfl⟩, fun _ h => (by cases h)⟩
      · obtain ⟨q, hq1, hq2⟩ := at1_of (hL hl) hx
        exact ⟨1, ((q : Int) + 1) * 10000, ⟨#[]⟩, false, 0, fun W v hv hb => match_call W v (⟨true, t, n, s, b, c, r0, r1, r2, r3, some ⟨g, o, none⟩, en, ec⟩ : Ag) es x.t x.n x.s x.b x.c q rfl hv (hE.keep hb) hm hnx hmay ht h0 (hL hl) h1 h2 h3 h4 h5 h6 h40 hq1, fun h => absurd h ht, fun _ h => (by cases h), fun _ _ => ⟨q, rfl, rfl, rfl, rfl, rfl, hL hl, hq1, hq2⟩⟩
  have HL : ¬ x.t = 4 → lineB r0 r1 r2 r3 = true → Hid (∀ (W : World) (v : Value), AV W v [oneV x.t x.n x.s x.b x.c, (⟨true, t, n, s, b, c, r0, r1, r2, r3, some ⟨g, o, none⟩, en, ec⟩ : Ag), (⟨true, t, n, s, b, c, r0, r1, r2, r3, some ⟨g, o, none⟩, en, ec⟩ : Ag)] → Below w.heap.size w W → Calls Tryz.prog 9 #[.string ⟨#[76, 79, 79, 75, 85, 80]⟩, v, .int .i64 0] W fun e w' => e = .returned (.agg #[.int .i64 x.t, .int .i64 x.n, .string x.s, .bool x.b, .int .i64 x.c]) ∧ Below W.heap.size W w') := fun ht hl => (show _ from fun W v hv hb => by
    obtain ⟨q, hq1, hq2⟩ := at1_of (hL hl) hx
    exact lookup_call W v (⟨true, t, n, s, b, c, r0, r1, r2, r3, some ⟨g, o, none⟩, en, ec⟩ : Ag) es x.t x.n x.s x.b x.c q rfl hv (hE.keep hb) hm hnx hmay ht h0 (hL hl) h1 h2 h3 h4 h5 h6 h40 hsz hq1)
  rcases hr with hr | hr
  · exact places_p t n s b c r0 r1 r2 r3 g o en ec es wh k x w hgl (show Hid _ from HAL k x hx) hE hn hx hk HAL hec hm h1 h2 h3 h4 h5 h6 b1 b2 b3 b4 hr mt mn ms mb mc HI HM HF4 HFn HFl HL
  · exact places_n t n s b c r0 r1 r2 r3 g o en ec es wh k x w hgl (show Hid _ from HAL k x hx) hE hn hx hk HAL hec hm h1 h2 h3 h4 h5 h6 b1 b2 b3 b4 hr mt mn ms mb mc HI HM HF4 HFn HFl HL
theorem law (p : Ag × List En) (wh : Int) (w : World) (aw : Oa.AgW w p) (wt : ∀ e ∈ p.2, e.s.size ≤ 140737488351232) (hwh : I64 wh) : Calls Tryz.prog 8 #[.agg (Ag.cells p.1), .int .i64 wh] w fun e w' => e = .returned (.bool true) ∧ Below w.heap.size w w' := by
  obtain ⟨⟨m, t, n, s, b, c, r0, r1, r2, r3, ep, en, ec⟩, es⟩ := p
  have hl : es.length ≤ 9223372036854775807 := by have h1 := aw.2.2.1; have h2 := aw.2.2.2.1; unfold maxLen at h2; simp only at h1 h2; omega
  have hN : ∀ x ∈ es, I64 x.n := fun x hx => (aw.2.2.2.2 x hx).2.2.2.1
  cases m
  · exact places_f t n s b c r0 r1 r2 r3 ep en ec es wh w
  · cases hm : mnB ((⟨true, t, n, s, b, c, r0, r1, r2, r3, ep, en, ec⟩ : Ag), es)
    · obtain ⟨hR, hes⟩ := parts_of t n s b c r0 r1 r2 r3 ep en ec es hm
      have hri := Ad.mayR_is hR
      have hf := ents_fit hes (by omega) (by omega)
      have ha1 : ((r2 - r0 + 1) * (r3 - r1 + 1)) ≤ 4096 * 256 := Int.mul_le_mul (by omega) (by omega) (by omega) (by omega)
      have hE : AgE w ((⟨true, t, n, s, b, c, r0, r1, r2, r3, ep, en, ec⟩ : Ag), es) := aw.e (show es.length ≤ 1099511627776 by omega)
      by_cases h0 : en = 0
      · exact places_0 t n s b c r0 r1 r2 r3 ep en ec es wh w aw.2.1 hN hl hm h0
      · have hln : es.length = en := aw.2.2.1
        obtain ⟨p', c', e0, hc, hf2⟩ := aw.2.1
        injection e0 with e1 e2 e3
        subst e1 e3
        obtain ⟨g, o, e4, hgl, HAL⟩ := hf2 (show 0 < es.length by omega)
        simp only at e4
        subst e4
        have hd1 := Int.tmod_lt_of_pos wh (show (0 : Int) < en by omega)
        have hd2 : -(en : Int) < wh.tmod en := by have := Int.lt_tmod_of_pos wh (show (0 : Int) < en by omega); exact this
        obtain ⟨k, hk, hr⟩ : ∃ k : Nat, k < es.length ∧ (wh.tmod (en : Int) = (k : Int) ∨ wh.tmod (en : Int) = (k : Int) - en) := by
          by_cases hs : 0 ≤ wh.tmod (en : Int)
          · exact ⟨(wh.tmod (en : Int)).toNat, by omega, .inl (by omega)⟩
          · exact ⟨(wh.tmod (en : Int) + en).toNat, by omega, .inr (by omega)⟩
        have hx := List.getElem?_eq_getElem hk
        have hz := wt _ (List.mem_of_getElem? hx)
        have hec : es.length ≤ ec := hc
        exact places_at t n s b c r0 r1 r2 r3 g o en ec es wh k _ w hgl HAL hE hln hx (by omega) hm (by omega) hr
    · exact places_no t n s b c r0 r1 r2 r3 ep en ec es wh w aw.2.1 hN hl hm

set_option maxRecDepth 100000 in
theorem lifted (os : Os) (started : os.Started) (H : Type) (enc : TypeId × Value → H) :
    ReturnsInHanded {} Tryz.checked os 8 .any (fun w args => (Rows.aggsPlacesSpec.pre enc Tryz.prog Tryz.f8 [] false w args ∧ laidMetH Tryz.prog tables w) ∧ sizedMet enc Tryz.prog Tryz.f8 (OpenSpec.ofChange Rows.aggsPlacesSpec) false w args)
      (Rows.aggsPlacesSpec.post enc Tryz.prog Tryz.f8 false true false false) := by
  refine returnsInHanded_of_change_and (C := Tryz.checked) (X := fun w _ => laidMetH Tryz.prog tables w) (fun _ _ _ hh h => h.of_heap hh) own started (by kernel_rfl) Tryz.func8
    (ChangeSpec.witness_shaped (enc := enc) (C := Tryz.checked) (os := os) (X := fun w _ => laidMetH Tryz.prog tables w) false (World.laidAll Tryz.prog os tables) #[.agg #[.bool false, .int .i64 0, .int .i64 0, .string ⟨#[]⟩, .bool false, .int .i64 0, .int .i64 0, .int .i64 0, .int .i64 0, .int .i64 0, .slice none 0 0], .int .i64 0] 8 (World.laidAll_os _ _ _)
      (World.shaped_of_ZipB (by kernel_rfl) (by kernel_rfl)) (by kernel_rfl) (by kernel_rfl) (by kernel_rfl)
      (by rw [MakeChecks.laidMetH_plain _ _ _ (by kernel_rfl)]; exact laidMet_laidAll _ (by kernel_rfl) (by kernel_rfl))) ?_
  intro W base args ds gs before hval0 hW _ hWt hL hS
  have hval : ∀ (j : Nat) t v, Tryz.f8.params[j]? = some t → args[j]? = some v → Value.okWide Tryz.prog W .any base t v := hval0
  have hW' := hW
  have hlt := hW.lt
  obtain ⟨p, q, hA0, hV, rfl, _, _⟩ := hW
  have hA : DataW.TrodAll enc Tryz.prog W 0 (fun _ => true) true Tryz.f8.params.toList args.toList ds p := hA0
  rw [Tryz.params8] at hA hval
  obtain ⟨v0, vs0, d0, ds0, p0, q0, hargs, rfl, rfl, h0, r0⟩ := trodAll_cons hA
  obtain ⟨v1, vs1, d1, ds1, p1, q1, rfl, rfl, rfl, h1, r1⟩ := trodAll_cons r0
  obtain ⟨rfl, rfl, rfl⟩ := trodAll_nil r1
  obtain rfl : args = #[v0, v1] := by cases args; simp_all
  obtain ⟨rfl, rfl⟩ := trodVars_none hV
  obtain ⟨x0, ev0, aw0, wt0⟩ := Oa.open_argw (hval 0 40 v0 rfl rfl) h0
  have wb0 : ∀ e ∈ x0.2, e.s.size ≤ 140737488351232 := fun e he => by
    have h := hWt
    rw [List.all_eq_true] at h
    have h2 := h e.s.size (by
      rw [Tryz.params8]
      show e.s.size ∈ DataW.weightsEach Tryz.prog (40 :: _) (d0 :: _)
      exact List.mem_append_left _ (wt0 e he))
    have h3 := of_decide_eq_true h2
    unfold reachBytes at h3
    omega
  obtain ⟨x1, rfl, rfl, rfl, wx1⟩ := open_int Tryz.underlying3 (hval 1 3 v1 rfl rfl) h1
  subst ev0
  refine (law x0 x1 W aw0 wb0 (Oa.i64_of wx1)).mono fun e W' ⟨he, hb⟩ => ?_
  subst he
  exact ⟨_, rfl, _, _, _, [], _, [], hW', trodAll_mk1 (shut_bool Tryz.underlying4 _), (trodAll_cons_mk (WideElems.Trod_stays laidOutN (by kernel_rfl) (show 40 < Tryz.prog.types.size from of_decide_eq_true (by kernel_rfl)) h0 (fun x hx => hb.same (hlt x (by simp [hx]))) (fun x hx => by have := hlt x (by simp [hx]); simpa using this)) (trodAll_cons_mk (shut_int Tryz.underlying3 wx1) trodAll_mk0)), rfl, hb.frame _, fun h => by cases h⟩

theorem holds : Rows.AggsPlacesSaid :=
  OpenClaim.holds_of_wide 8 Tryz.f8 rfl rfl rfl rfl rfl rfl rfl ⟨rfl, rfl, rfl, rfl, rfl⟩ rfl rfl rfl rfl rfl (by kernel_rfl) Tryz.func8 (by kernel_rfl)
    (of_decide_eq_true (by kernel_rfl)) (by unfold Func.isWrapper; first | (rw [if_pos (by decide +kernel)]; kernel_rfl) | (rw [if_neg (by decide +kernel)]; exact ⟨rfl, rfl⟩))
    (fun os started H enc _ => lifted os started H enc)
theorem plain (f : FuncId) (fn : Func) (hf : Tryz.pinned.checked.prog.funcNamed "oriel/oriellaw10.AggsPlaces" = some f) (hfn : Tryz.pinned.checked.prog.funcs[f]? = some fn) :
    false = Tryz.pinned.checked.prog.looks [] ∧ ∀ (j : Nat) t, fn.params[j]? = some t → Tryz.pinned.checked.prog.wantsStandIn t = false := by
  obtain rfl : f = 8 := Option.some.inj ((show Tryz.prog.funcNamed "oriel/oriellaw10.AggsPlaces" = some 8 by kernel_rfl).symm.trans hf) |>.symm
  obtain rfl : fn = Tryz.f8 := (Option.some.inj (Tryz.func8.symm.trans hfn)).symm
  refine ⟨by kernel_rfl, fun j t ht => ?_⟩
  rw [Tryz.params8] at ht
  have hm : t ∈ [40, 3] := by simpa using Array.mem_of_getElem? ht
  have hall : ([40, 3].all fun u => !Tryz.prog.wantsStandIn u) = true := by kernel_rfl
  exact (show Tryz.prog.wantsStandIn t = false by simpa using List.all_eq_true.1 hall t hm)
/-- The card. -/
theorem card : Rows.AggsPlacesCardSaid :=
  Claim7.holds_tied_plain_at .later [] _ _ _ _ holds (fun _ h => by cases h) (by kernel_rfl) (fun _ h => by cases h) aggsPlaces_row_tie rfl ⟨rfl, rfl⟩ (by kernel_rfl) rfl plain (by kernel_rfl)
end Go.Proofs.YtcgcnpcimfaecaaGreatDoor.aggsPlaces
namespace Go.Proofs.YtcgcnpcimfaecaaGreatDoor
theorem aggsPlaces_card : Rows.AggsPlacesCardSaid := aggsPlaces.card
end Go.Proofs.YtcgcnpcimfaecaaGreatDoor
