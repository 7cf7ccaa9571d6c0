/- The walk of LexLeaves: (one way of its bound) whoever leaves at a token has had those up to it; a loop within a loop, and one behind it, begin anew. The conditions: a text of at most 1048576 bytes; what package value lays (the names), and that a variable of the library holds a number. -/
import Derived.Test.YtaamphdihmghhaaGreatDoorQLLo
namespace Go.Proofs.YtaamphdihmghhaaGreatDoor
open Go.Shelf Go.RowKit
set_option linter.all false
theorem run_store_func (P : Program) (w : World) (a : Addr) (c : Fn) (x y : Array Value) (m : Mode) : (store a (.func c x y) m).run P w = stored P w a (.func c x y) m := run_store P w a _ m rfl
attribute [local go_sem] Oper.semAt_some run_store_func
set_option maxRecDepth 100000 in
set_option maxHeartbeats 8000000 in
theorem leaves_a (s : ByteArray) (most : Int) (w : World) (hs : s.size ≤ 1048576) (hm1 : 0 < most) (hm2 : most < (toks s).length) (hm3 : ¬ most ≤ 0) (hN : Vv.Nam w) (hM : Mx w) :
    Calls Tryz.prog 4 #[.string s, .int .i64 most] w fun e w' => e = .returned (.bool true) ∧ Below w.heap.size w w' := by
  obtain ⟨nn, hnn⟩ : ∃ nn : Int, nn = most := ⟨_, rfl⟩
  have hn0 : 0 ≤ nn := by omega
  have hnL : nn ≤ (toks s).length := by omega
  have HKn : Hid (∀ w1, Below w.heap.size w w1 → Calls Tryz.prog 8 #[] w1 fun e w' => e = .returned (.bool true) ∧ Below w1.heap.size w1 w') := fun w1 hb => known_any w1 (hN.stays hb) (hM.stays hb)
  refine (callsIn_wide (n := 9)).1 ?_
  refine callsIn_of_wp_marks Tryz.func4 rfl trivial ?_ rfl
  simp only [Tryz.ntmps4, List.size_toArray, List.length_cons, List.length_nil, Nat.reduceAdd, Nat.reduceSub, Array.replicate_succ, Array.replicate_zero, List.push_toArray, List.append_toArray, List.nil_append, List.cons_append]
  have hrl := fun w => rlex s w hs
  have hlm := fun w => lex_mk s w
  have hnil := func_nil
  gi_wp2_with (first | (refine ⟨trivial, ?_⟩; gi_at_call 7; refine (callsIn_wide.2 (hrl _)).mono ?_; clear hrl; rintro e w1 ⟨v, rfl, hT, hb⟩; obtain ⟨g, cap, rfl, hg1, hg2, hc, hf, hcap⟩ := hT.form (toks_pos s); clear hT) | (refine ⟨trivial, ?_⟩; gi_at_call 9; refine (callsIn_wide.2 (hlm _)).mono ?_; clear hlm; rintro e w2 ⟨rfl, rfl⟩))
  clear hnil
  have hs' : s.size < 4294967281 := by omega
  obtain ⟨V, hV⟩ : ∃ V, ((((w1.alloc (.cells #[.slice (some ⟨g, 0, none⟩) (toks s).length cap] 23)).alloc (.cells #[.int .i64 nn] 3)).alloc (.cells #[.string s] 9)).alloc (.cells #[.func (.func 11) #[] #[.pointer (some ⟨w1.heap.size + 1 + 1, 0, none⟩)]] 29)) = V := ⟨_, rfl⟩
  have hV' : ((((w1.alloc (.cells #[.slice (some ⟨g, 0, none⟩) (toks s).length cap] 23)).alloc (.cells #[.int .i64 most] 3)).alloc (.cells #[.string s] 9)).alloc (.cells #[.func (.func 11) #[] #[.pointer (some ⟨w1.heap.size + 1 + 1, 0, none⟩)]] 29)) = V := by rw [← hV, hnn]
  rw [hV']
  clear hV' hnn hm1 hm3
  try clear hm2
  obtain ⟨b, hbe⟩ : ∃ b, w.heap.size = b := ⟨_, rfl⟩
  obtain ⟨c, hce⟩ : ∃ c, w1.heap.size = c := ⟨_, rfl⟩
  rw [hce] at hV ⊢
  rw [hbe]
  have hB1 : Below b w w1 := by rw [← hbe]; exact bup (bal _ _) hb
  have hbc : b < c := by have := hb.size; rw [World.size_alloc, hce, hbe] at this; omega
  have hBc : Below c w1 V := by
    rw [← hV, ← hce]
    exact ((((Below.refl _ w1).alloc (Nat.le_refl _) _).alloc (by simp) _).alloc (by simp; omega) _).alloc (by simp; omega) _
  have hVs : V.heap.size = c + 4 := by rw [← hV, ← hce]; simp
  have v0 : Own V b #[.bool false] := by
    have h := (Own.new w #[.bool false] 4).keep hb
    rw [hbe] at h
    exact h.of_block (hBc.block b (by omega))
  have v1 : Own V c #[.slice (some ⟨g, 0, none⟩) (toks s).length cap] := by rw [← hV, ← hce]; exact (((Own.new _ _ _).past _).past _).past _
  have v2 : Own V (c + 1) #[.int .i64 nn] := by rw [← hV, ← hce]; exact ((Own.at (by simp)).past _).past _
  have v3 : Own V (c + 1 + 1) #[.string s] := by rw [← hV, ← hce]; exact (Own.at (by simp)).past _
  have v4 : Own V (c + 1 + 1 + 1) #[.func (.func 11) #[] #[.pointer (some ⟨c + 1 + 1, 0, none⟩)]] := by rw [← hV, ← hce]; exact Own.at (by simp)
  have hBV : Below b w V := hB1.trans ⟨hBc.os, hBc.tape, hBc.output, hBc.size, fun x hx => hBc.block x (by omega)⟩
  have hNV : Vv.Nam V := hN.stays (by rw [hbe]; exact hBV)
  have hMV : Mx V := hM.stays (by rw [hbe]; exact hBV)
  have hgN := Nam_lt hN
  have hgM := Mx_lt hM
  rw [hbe] at hgN hgM
  have hgv := lex_gives s (c + 1 + 1) V (v3.cell 0) hs' hNV hMV
  have hO : ∀ x, ownT (c + 1 + 1) x → x < c + 4 := by rintro x (rfl | rfl | rfl) <;> omega
  have hgV : V.heap[g]? = w1.heap[g]? := hBc.block g (by omega)
  have FV : Hid (∀ A : World, (∀ x, x < c + 4 → A.heap[x]? = V.heap[x]?) → Own A c #[.slice (some ⟨g, 0, none⟩) (toks s).length cap] ∧ Own A (c + 1) #[.int .i64 nn] ∧ Own A (c + 1 + 1 + 1) #[.func (.func 11) #[] #[.pointer (some ⟨c + 1 + 1, 0, none⟩)]] ∧ ∀ (i : Nat) (t : Tk), (toks s)[i]? = some t → ∀ j, j < 11 → A.cell? ⟨g, i * 11 + j, none⟩ = t.cells[j]?) := fun A hA =>
    ⟨v1.of_block (hA _ (by omega)), v2.of_block (hA _ (by omega)), v4.of_block (hA _ (by omega)), fun i t ht j hj => (World.cell?_of_block ((hA g (by omega)).trans hgV)).trans (hc i t ht j hj)⟩
  have hp := toks_pos s
  clear hV v1 v2 v3 v4 hNV hMV hgN hgM hN hM hc hf hb hBc hB1 hgV
  refine wpIn_loop (fun a A => ∃ (r : Nat) (Dl : List Nat) (u0 u1 u2 u3 u9 u10 u11 u12 u13 u14 u15 u16 u17 u18 u19 u20 u21 u22 u23 u24 u25 u26 u27 u28 u29 u30 u31 u32 u33 u34 u35 u36 u37 u38 u39 u40 u41 u42 u43 u44 u45 u46 u47 u48 u49 u50 u51 u52 u53 u54 u55 u56 u57 u58 u59 u60 u61 u62 u63 u64 u65 u66 u67 u68 u69 u70 u71 u72 u73 u74 u75 u76 u77 u78 u79 u80 u81 u82 u83 u84 u85 u86 u87 u88 : Value), a = ⟨(List.toArray (u0 :: u1 :: u2 :: u3 :: .pointer (some ⟨b, 0, none⟩) :: .pointer (some ⟨c, 0, none⟩) :: .pointer (some ⟨c + 1, 0, none⟩) :: .pointer (some ⟨c + 1 + 1 + 1, 0, none⟩) :: .int .i64 (r : Nat) :: u9 :: u10 :: u11 :: u12 :: u13 :: u14 :: u15 :: u16 :: u17 :: u18 :: u19 :: u20 :: u21 :: u22 :: u23 :: u24 :: u25 :: u26 :: u27 :: u28 :: u29 :: u30 :: u31 :: u32 :: u33 :: u34 :: u35 :: u36 :: u37 :: u38 :: u39 :: u40 :: u41 :: u42 :: u43 :: u44 :: u45 :: u46 :: u47 :: u48 :: u49 :: u50 :: u51 :: u52 :: u53 :: u54 :: u55 :: u56 :: u57 :: u58 :: u59 :: u60 :: u61 :: u62 :: u63 :: u64 :: u65 :: u66 :: u67 :: u68 :: u69 :: u70 :: u71 :: u72 :: u73 :: u74 :: u75 :: u76 :: u77 :: u78 :: u79 :: u80 :: u81 :: u82 :: u83 :: u84 :: u85 :: u86 :: u87 :: u88 :: [])), Dl.map fun D => ⟨.collected D, #[]⟩⟩ ∧ r ≤ 2 ∧ Dl.length = r ∧ (∀ D ∈ Dl, A.heap[D]? = some (.deferred (some []))) ∧ Dl.Nodup ∧ (∀ D ∈ Dl, c + 4 ≤ D) ∧ Below (c + 4) V A) (fun a _ => 2 - (intOf (a.tmps.getD 8 undef)).toNat) ?h0 ?round
  case h0 =>
    refine ⟨0, [], ?_⟩
    iterate 84 (apply Exists.intro)
    exact ⟨rfl, by omega, rfl, by simp, by simp, by simp, Below.refl _ _⟩
  case round =>
    intro a A hI
    obtain ⟨r, Dl, hI⟩ := hI
    obtain ⟨u0, hI⟩ := hI
    obtain ⟨u1, hI⟩ := hI
    obtain ⟨u2, hI⟩ := hI
    obtain ⟨u3, hI⟩ := hI
    obtain ⟨u9, hI⟩ := hI
    obtain ⟨u10, hI⟩ := hI
    obtain ⟨u11, hI⟩ := hI
    obtain ⟨u12, hI⟩ := hI
    obtain ⟨u13, hI⟩ := hI
    obtain ⟨u14, hI⟩ := hI
    obtain ⟨u15, hI⟩ := hI
    obtain ⟨u16, hI⟩ := hI
    obtain ⟨u17, hI⟩ := hI
    obtain ⟨u18, hI⟩ := hI
    obtain ⟨u19, hI⟩ := hI
    obtain ⟨u20, hI⟩ := hI
    obtain ⟨u21, hI⟩ := hI
    obtain ⟨u22, hI⟩ := hI
    obtain ⟨u23, hI⟩ := hI
    obtain ⟨u24, hI⟩ := hI
    obtain ⟨u25, hI⟩ := hI
    obtain ⟨u26, hI⟩ := hI
    obtain ⟨u27, hI⟩ := hI
    obtain ⟨u28, hI⟩ := hI
    obtain ⟨u29, hI⟩ := hI
    obtain ⟨u30, hI⟩ := hI
    obtain ⟨u31, hI⟩ := hI
    obtain ⟨u32, hI⟩ := hI
    obtain ⟨u33, hI⟩ := hI
    obtain ⟨u34, hI⟩ := hI
    obtain ⟨u35, hI⟩ := hI
    obtain ⟨u36, hI⟩ := hI
    obtain ⟨u37, hI⟩ := hI
    obtain ⟨u38, hI⟩ := hI
    obtain ⟨u39, hI⟩ := hI
    obtain ⟨u40, hI⟩ := hI
    obtain ⟨u41, hI⟩ := hI
    obtain ⟨u42, hI⟩ := hI
    obtain ⟨u43, hI⟩ := hI
    obtain ⟨u44, hI⟩ := hI
    obtain ⟨u45, hI⟩ := hI
    obtain ⟨u46, hI⟩ := hI
    obtain ⟨u47, hI⟩ := hI
    obtain ⟨u48, hI⟩ := hI
    obtain ⟨u49, hI⟩ := hI
    obtain ⟨u50, hI⟩ := hI
    obtain ⟨u51, hI⟩ := hI
    obtain ⟨u52, hI⟩ := hI
    obtain ⟨u53, hI⟩ := hI
    obtain ⟨u54, hI⟩ := hI
    obtain ⟨u55, hI⟩ := hI
    obtain ⟨u56, hI⟩ := hI
    obtain ⟨u57, hI⟩ := hI
    obtain ⟨u58, hI⟩ := hI
    obtain ⟨u59, hI⟩ := hI
    obtain ⟨u60, hI⟩ := hI
    obtain ⟨u61, hI⟩ := hI
    obtain ⟨u62, hI⟩ := hI
    obtain ⟨u63, hI⟩ := hI
    obtain ⟨u64, hI⟩ := hI
    obtain ⟨u65, hI⟩ := hI
    obtain ⟨u66, hI⟩ := hI
    obtain ⟨u67, hI⟩ := hI
    obtain ⟨u68, hI⟩ := hI
    obtain ⟨u69, hI⟩ := hI
    obtain ⟨u70, hI⟩ := hI
    obtain ⟨u71, hI⟩ := hI
    obtain ⟨u72, hI⟩ := hI
    obtain ⟨u73, hI⟩ := hI
    obtain ⟨u74, hI⟩ := hI
    obtain ⟨u75, hI⟩ := hI
    obtain ⟨u76, hI⟩ := hI
    obtain ⟨u77, hI⟩ := hI
    obtain ⟨u78, hI⟩ := hI
    obtain ⟨u79, hI⟩ := hI
    obtain ⟨u80, hI⟩ := hI
    obtain ⟨u81, hI⟩ := hI
    obtain ⟨u82, hI⟩ := hI
    obtain ⟨u83, hI⟩ := hI
    obtain ⟨u84, hI⟩ := hI
    obtain ⟨u85, hI⟩ := hI
    obtain ⟨u86, hI⟩ := hI
    obtain ⟨u87, hI⟩ := hI
    obtain ⟨u88, hI⟩ := hI
    obtain ⟨ha, hr2, hDl, hDd, hnd, hDc, hBA⟩ := hI
    subst ha
    have hAs := hBA.size
    by_cases hr : r < 2
    · have hr' : (r : Int) < 2 := by omega
      obtain ⟨-, -, oq, -⟩ := FV.out A (fun x hx => hBA.block x hx)
      have cq := oq.cell
      have lq := oq.lt
      gi_wp2
      obtain ⟨bk, hbk⟩ : ∃ bk, A.heap.size = bk := ⟨_, rfl⟩
      obtain ⟨A1, hA1⟩ : ∃ A1, A.alloc (.cells #[.int .i64 0] 3) = A1 := ⟨_, rfl⟩
      rw [hA1, hbk]
      have oK0 : Own A1 bk #[.int .i64 ((0 : Nat) : Int)] := by rw [← hA1, ← hbk]; exact Own.new _ _ _
      have hA1s : A1.heap.size = bk + 1 := by rw [← hA1, World.size_alloc, hbk]
      have hbk4 : c + 4 ≤ bk := by omega
      have hV1 : ∀ x, x < c + 4 → A1.heap[x]? = V.heap[x]? := fun x hx => by rw [← hA1]; exact (Below.heap_alloc A _ x (by omega)).trans (hBA.block x hx)
      have hD1 : ∀ D ∈ Dl, D < bk ∧ A1.heap[D]? = some (.deferred (some [])) := fun D hD => by
        have h := hDd D hD
        have hl := (Array.getElem?_eq_some_iff.1 h).1
        exact ⟨by omega, by rw [← hA1]; exact (Below.heap_alloc A _ D hl).trans h⟩
      have hB1 : Below (c + 4) V A1 := by rw [← hA1]; exact hBA.alloc (by omega) _
      clear hA1 hDd hBA hbk cq lq oq
      refine leaf_out (gf := 11) (lb := #[.pointer (some ⟨c + 1 + 1, 0, none⟩)]) rfl (enters_of Tryz.func11 (by kernel_rfl) rfl) hgv (fun _ => rfl) bk 2 (fun k => (k : Int) < nn ∧ k ≤ 40) hp (by rintro ⟨h, _⟩; omega) oK0 ?own ?oround ?oend
      case own => intro x hx; have := hO x hx; exact ⟨hV1 x this, by omega, by omega⟩
      case oend =>
        intro D k W hD hDW hK hkl hk1 hk2 oK hBx
        have hVW : ∀ x, x < c + 4 → W.heap[x]? = V.heap[x]? := fun x hx => (hBx.block x (by omega) (by omega)).trans (hV1 x hx)
        obtain ⟨-, on, -, -⟩ := FV.out W hVW
        have cn := on.cell
        have ln := on.lt
        have ck := oK.cell
        have lk := oK.lt
        have HF : Hid (r + 1 ≤ 2 ∧ (D :: Dl).length = r + 1 ∧ (∀ D' ∈ D :: Dl, W.heap[D']? = some (.deferred (some []))) ∧ (D :: Dl).Nodup ∧ (∀ D' ∈ D :: Dl, c + 4 ≤ D') ∧ Below (c + 4) V W) := by
          refine ⟨by omega, by rw [List.length_cons, hDl], ?_, ?_, ?_, ?_⟩
          · intro D' hD'
            rcases List.mem_cons.1 hD' with h | h
            · rw [h]; exact hK
            · exact (hBx.block D' (by have := (hD1 D' h).1; omega) (by have := (hD1 D' h).1; omega)).trans (hD1 D' h).2
          · exact List.nodup_cons.2 ⟨fun h => by have := (hD1 D h).1; omega, hnd⟩
          · intro D' hD'
            rcases List.mem_cons.1 hD' with h | h
            · rw [h]; omega
            · exact hDc D' h
          · exact hB1.trans ⟨hBx.os, hBx.tape, hBx.output, hBx.size, fun x hx => hBx.block x (by omega) (by omega)⟩
        by_cases n0 : 0 < nn
        · by_cases n40 : nn ≤ 40
          · have hkn : (k : Int) + 1 = nn := by
              rcases hk1 with h | ⟨h, h'⟩
              · subst h; by_cases h3 : ((0 + 1 : Nat) : Int) < nn
                · exact absurd ⟨h3, by omega⟩ hk2
                · omega
              · by_cases h3 : ((k + 1 : Nat) : Int) < nn
                · exact absurd ⟨h3, by omega⟩ hk2
                · omega
            have hknb : ((k : Int) + 1 == nn) = true := by simpa using hkn
            have hknc : ((k : Int) + 1 != nn) = false := by simpa using hkn
            clear hk1 hk2 hVW on oK hK hD1 hDl hnd hDc hB1 hBx hkn
            gi_wp2
            refine ⟨⟨r + 1, D :: Dl, ?_⟩, ?_⟩
            · iterate 84 (apply Exists.intro)
              exact ⟨rfl, HF.out⟩
            · simp [intOf]; omega
          · clear hk1 hk2 hVW on oK hK hD1 hDl hnd hDc hB1 hBx
            gi_wp2
            refine ⟨⟨r + 1, D :: Dl, ?_⟩, ?_⟩
            · iterate 84 (apply Exists.intro)
              exact ⟨rfl, HF.out⟩
            · simp [intOf]; omega
        · clear hk1 hk2 hVW on oK hK hD1 hDl hnd hDc hB1 hBx
          gi_wp2
          refine ⟨⟨r + 1, D :: Dl, ?_⟩, ?_⟩
          · iterate 84 (apply Exists.intro)
            exact ⟨rfl, HF.out⟩
          · simp [intOf]; omega
      case oround => exact oround_w s hs nn c g cap bk V A1 hn0 hnL hp hbk4 hA1s hV1 hgv hO FV
    · have hr' : ¬ (r : Int) < 2 := by omega
      obtain ⟨D2, D1, rfl⟩ : ∃ D2 D1, Dl = [D2, D1] := by
        match Dl, hDl with
        | [x, y], _ => exact ⟨x, y, rfl⟩
        | [], h => simp at h; omega
        | [_], h => simp at h; omega
        | _ :: _ :: _ :: _, h => simp at h; omega
      have hK2 := hDd D2 (by simp)
      have hK1 := hDd D1 (by simp)
      have hne21 : D2 ≠ D1 := fun e => by rw [e] at hnd; simp at hnd
      have h2c := hDc D2 (by simp)
      have h1c := hDc D1 (by simp)
      have oR : Own A b #[.bool false] := v0.of_block (hBA.block b (by omega))
      have hBwA : Below b w A := hBV.trans ⟨hBA.os, hBA.tape, hBA.output, hBA.size, fun x hx => hBA.block x (by omega)⟩
      have hkn := HKn.out A (by rw [hbe]; exact hBwA)
      clear hDd hDc hnd FV hgv hO
      gi_wp2_with (refine ⟨trivial, ?_⟩; gi_at_call 8; refine (callsIn_wide.2 hkn).mono ?_; clear hkn; rintro e w5 ⟨rfl, hb5⟩; have o5 := oR.keep hb5; have c5 := o5.cell; have f5 := o5.fro; have l5 := o5.lt)
      have hAb : b < A.heap.size := oR.lt
      have q2 : (w5.setCell ⟨b, 0, none⟩ (.bool true)).heap[D2]? = some (.deferred (some [])) := (set_other (by show D2 ≠ b; omega)).trans ((hb5.block D2 (Array.getElem?_eq_some_iff.1 hK2).1).trans hK2)
      have q1 : ((w5.setCell ⟨b, 0, none⟩ (.bool true)).putObj D2 (.deferred none)).heap[D1]? = some (.deferred (some [])) := (World.putObj_heap_other (fun e => hne21 e.symm)).trans ((set_other (by show D1 ≠ b; omega)).trans ((hb5.block D1 (Array.getElem?_eq_some_iff.1 hK1).1).trans hK1))
      have oZ : Own (((w5.setCell ⟨b, 0, none⟩ (.bool true)).putObj D2 (.deferred none)).putObj D1 (.deferred none)) b #[.bool true] := ((Own.put o5).of_block (World.putObj_heap_other (by omega))).of_block (World.putObj_heap_other (by omega))
      have rc := oZ.cell
      have rf := oZ.fro
      have rl := oZ.lt
      refine ⟨by simp, .inl ⟨_, _, rfl, run_takeDeferred q2, ⟨by simp, .inl ⟨_, _, rfl, run_takeDeferred q1, ?_⟩⟩⟩⟩
      refine ⟨.bool true, by simp [results, Tryz.results4, go_sem, rc, rf, rl], rfl, ?_⟩
      rw [hbe]
      have hB5 : Below b w w5 := hBwA.trans ⟨hb5.os, hb5.tape, hb5.output, hb5.size, fun x hx => hb5.block x (by omega)⟩
      exact (hB5.setCell (p := ⟨b, 0, none⟩) (Nat.le_refl _) _).trans ⟨rfl, rfl, rfl, by rw [World.putObj_size, World.putObj_size]; exact Nat.le_refl _, fun y hy => (World.putObj_heap_other (by omega)).trans (World.putObj_heap_other (by omega))⟩
end Go.Proofs.YtaamphdihmghhaaGreatDoor
