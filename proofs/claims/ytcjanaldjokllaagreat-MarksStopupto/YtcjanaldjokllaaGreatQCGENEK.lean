/- Pieces of a row that are appended. No function's text is walked here. · slices.Clone at references; the contract of deps.eachOnce: sorted, each once, in memory of its own. · Maps by cells, of slices: what each cell has (nothing, if it is not there); looked up, set, deleted, ranged over. No function's text is walked here. -/
import Derived.Test.YtcjanaldjokllaaGreatQCOCLCV
import Derived.Test.YtcjanaldjokllaaGreatQBGfEOEM
import Derived.Lib.SliceRun
import Derived.Maps.OwnSet
import Derived.Maps.OwnOps
import Derived.Maps.Range
import Derived.DeepKeys4
namespace Go.Proofs.YtcjanaldjokllaaGreat
open Go.RowKit
set_option linter.all false
/-- A piece: nothing, or so many behind an address. -/
def VG {α : Type} (sz : Nat) (cs : α → List Value) (w : World) (v : Value) (k : List α) : Prop := (v = .slice none 0 0 ∧ k = []) ∨ ∃ a cp, v = .slice (some a) k.length cp ∧ ∀ j u, (flatG cs k)[j]? = some u → w.cell? (a.add j) = some u
theorem VG.keep {α : Type} {sz : Nat} {cs : α → List Value} {w w' : World} {g o n cp : Nat} {k : List α} (h : VG sz cs w (.slice (some ⟨g, o, none⟩) n cp) k) (hb : Below w.heap.size w w') (hg : g < w.heap.size) : VG sz cs w' (.slice (some ⟨g, o, none⟩) n cp) k := by
  rcases h with ⟨h, _⟩ | ⟨a, c2, h, hc⟩
  · cases h
  · injection h with h1 h2 h3
    injection h1 with h1
    subst h1
    refine .inr ⟨_, c2, by rw [h2, h3], fun j u hu => ?_⟩
    rw [add_none]
    refine (hb.cell (p := ⟨g, o + j, none⟩) hg).trans ?_
    have := hc j u hu
    rwa [add_none] at this
theorem app_piece {α : Type} {E T : TypeId} {sz by' : Nat} {cs : α → List Value} {i : TypeInfo} {z : Value} (hT : Tryz.prog.underlying T = some (.slice E)) (hi : Tryz.prog.info? E = some i) (hz : i.zero = some z) (hs : i.size = sz) (hb : i.bytes = by') (hzs : z.cells.size = sz) (hsz : 0 < sz) (hc : ∀ x, (cs x).length = sz) (h1 : ∀ x, ∀ u ∈ cs x, u.oneCell' = true)
    {w : World} {base : Nat} {v x : Value} {l k : List α} (h : RowG E sz cs w base v l) (hx : VG sz cs w x k) (hw : base ≤ w.heap.size) (hl : (l.length + k.length) * by' ≤ 140737488355328) (hm : l.length + k.length ≤ 9223372036854775807) (ty : TypeId) :
    ∃ q n c w', (Builtin.append_ #[T, T] ty #[v, x]).run Tryz.prog w = .ok (.slice q n c) w' ∧ RowG E sz cs w' base (.slice q n c) (l ++ k) ∧ Below base w w' := by
  have hslice : ∀ {w' : World} {v' : Value}, RowG E sz cs w' base v' (l ++ k) → ∃ q n c, v' = .slice q n c := fun h' => by
    rcases RowG.two h' with ⟨rfl, _⟩ | ⟨g, cap, cur, rfl, _⟩ <;> exact ⟨_, _, _, rfl⟩
  rcases hx with ⟨rfl, rfl⟩ | ⟨a, cp, rfl, hcell⟩
  · have hsl : ∃ q cp, v = .slice q l.length cp ∧ l.length ≤ cp := by
      rcases h.two with ⟨rfl, rfl⟩ | ⟨g, cap, cur, rfl, _, _, _, h3, _⟩
      · exact ⟨_, _, rfl, Nat.le_refl _⟩
      · exact ⟨_, _, rfl, h3⟩
    obtain ⟨q, cp, rfl, hle⟩ := hsl
    refine ⟨q, _, cp, w, ?_, by rw [List.append_nil]; exact h, Below.refl _ _⟩
    simp [Builtin.append_, run_underlying hT, sizeOf, typeInfo, hi, Builtin.lenOf, hle, Builtin.firstCells, storeCells]
    cases q <;> rfl
  · obtain ⟨v', w', k1, k2, k3, k4, k5⟩ := run_append_own_at (P := Tryz.prog) w base T ty E i z sz by' hT hi hz hs hb hzs hsz v l.length (flatG cs l) h a k.length cp (flatG cs k) (flatG_len hc k) hcell (flatG_one h1 k) (by unfold maxLen; omega) hl hw
    have hR : RowG E sz cs w' base v' (l ++ k) := by
      unfold RowG
      rw [flatG_app, List.length_append]
      exact k2
    obtain ⟨q, n, c, rfl⟩ := hslice hR
    refine ⟨q, n, c, w', k1, hR, ⟨k3.os, k3.tape, k3.output, k3.size, fun b hb => k3.block b (by omega) (fun q => ?_)⟩⟩
    have := (h.lt b q.symm).1
    omega
/-- The pieces of a row that lies in memory. -/
theorem VG.cut {α : Type} {sz : Nat} {cs : α → List Value} (hc : ∀ x, (cs x).length = sz) {w : World} {g cap : Nat} {l : List α} (hg : ∀ i x, l[i]? = some x → ∀ j u, (cs x)[j]? = some u → w.cell? ⟨g, i * sz + j, none⟩ = some u) (i m : Nat) (hm : i + m ≤ l.length) : VG sz cs w (.slice (some ⟨g, i * sz, none⟩) m cap) ((l.drop i).take m) := by
  have hlen : ((l.drop i).take m).length = m := by rw [List.length_take, List.length_drop]; omega
  refine .inr ⟨_, cap, by rw [hlen], fun j u hu => ?_⟩
  rw [add_none]
  have hjl : j < m * sz := by
    have h1 := (List.getElem?_eq_some_iff.1 hu).1
    rw [flatG_len hc, hlen] at h1
    exact h1
  have hsz : 0 < sz := by
    rcases Nat.eq_zero_or_pos sz with h0 | h0
    · rw [h0] at hjl; simp at hjl
    · exact h0
  have hq : j / sz < m := by rw [Nat.div_lt_iff_lt_mul hsz]; exact hjl
  have hr : j % sz < sz := Nat.mod_lt _ hsz
  have hjj : j = j / sz * sz + j % sz := by rw [Nat.mul_comm]; exact (Nat.div_add_mod j sz).symm
  have hlt : i + j / sz < l.length := by omega
  have hx : ((l.drop i).take m)[j / sz]? = some (l[i + j / sz]'hlt) := by
    rw [List.getElem?_take_of_lt hq, List.getElem?_drop, List.getElem?_eq_getElem hlt]
  have h2 := flatG_at hc _ (j / sz) _ (j % sz) hx hr
  rw [← hjj, hu] at h2
  have h3 := hg (i + j / sz) _ (List.getElem?_eq_getElem hlt) (j % sz) u h2.symm
  have e : i * sz + j = (i + j / sz) * sz + j % sz := by rw [Nat.add_mul, Nat.add_assoc, ← hjj]
  rw [e]
  exact h3
theorem VG.one {α : Type} {sz : Nat} {cs : α → List Value} {w : World} {vb : Nat} {x : α} {T : TypeId} (h : w.heap[vb]? = some (.cells (cs x).toArray T (0, 0))) : VG sz cs w (.slice (some ⟨vb, 0, none⟩) 1 1) [x] := by
  refine .inr ⟨_, 1, rfl, fun j u hu => ?_⟩
  rw [add_none, Nat.zero_add, cell_row h]
  simpa [flatG] using hu
end Go.Proofs.YtcjanaldjokllaaGreat
namespace Go.Proofs.YtcjanaldjokllaaGreat
open Go.RowKit Go.Shelf
set_option linter.all false
theorem flat_cells {α : Type} {cs : α → List Value} {sz : Nat} (hc : ∀ x, (cs x).length = sz) {w : World} {b o : Nat} {l : List α} (h : ∀ i x, l[i]? = some x → ∀ j u, (cs x)[j]? = some u → w.cell? ⟨b, o + i * sz + j, none⟩ = some u) : ∀ j u, (flatG cs l)[j]? = some u → w.cell? ((⟨b, o, none⟩ : Addr).add j) = some u := fun j u hu => by
  rw [add_none]
  have hjl : j < l.length * sz := by
    have h1 := (List.getElem?_eq_some_iff.1 hu).1
    rwa [flatG_len hc] at h1
  have hsz : 0 < sz := by
    rcases Nat.eq_zero_or_pos sz with h0 | h0
    · rw [h0] at hjl; simp at hjl
    · exact h0
  have hq : j / sz < l.length := by rw [Nat.div_lt_iff_lt_mul hsz]; exact hjl
  have hr : j % sz < sz := Nat.mod_lt _ hsz
  have hjj : j = j / sz * sz + j % sz := by rw [Nat.mul_comm]; exact (Nat.div_add_mod j sz).symm
  have hx : l[j / sz]? = some (l[j / sz]'hq) := List.getElem?_eq_getElem hq
  have h2 := flatG_at hc _ (j / sz) _ (j % sz) hx hr
  rw [← hjj, hu] at h2
  have h3 := h (j / sz) _ hx (j % sz) u h2.symm
  rw [show o + j = o + j / sz * sz + j % sz by omega]
  exact h3
set_option maxRecDepth 100000 in
set_option maxHeartbeats 2000000 in
theorem clone_any (w : World) (b o n cp : Nat) (l : List Rf) (hn : n = l.length) (hp : 0 < n) (hl : n ≤ 3518437208883) (hc : ∀ i x, l[i]? = some x → ∀ j u, (Rf.cs x)[j]? = some u → w.cell? ⟨b, o + i * 5 + j, none⟩ = some u) : Calls Tryz.prog 41 #[.slice (some ⟨b, o, none⟩) n cp] w fun e w' => ∃ v', e = .returned v' ∧ RowG 53 5 Rf.cs w' w.heap.size v' l ∧ Below w.heap.size w w' := by
  have mixed : Tryz.prog.follows .mixedOrders = true := by kernel_rfl
  have HV : Hid (∀ W, Below w.heap.size w W → VG 5 Rf.cs W (.slice (some ⟨b, o, none⟩) n cp) l) := (show _ from fun W hb => .inr ⟨⟨b, o, none⟩, cp, by rw [hn], fun j u hu => by
    have h := flat_cells Rf.len hc j u hu
    rw [add_none] at h ⊢
    have hlt : b < w.heap.size := by
      rcases Nat.lt_or_ge b w.heap.size with q | q
      · exact q
      · rw [World.cell?, Array.getElem?_eq_none q] at h; cases h
    exact (hb.cell (p := ⟨b, o + j, none⟩) hlt).trans h⟩)
  obtain ⟨i0, hi0, hz0, hzs, hzb⟩ := info_parts infoRf
  have HAP : Hid (∀ (W : World) (u x : Value) (a kk : List Rf), RowG 53 5 Rf.cs W w.heap.size u a → VG 5 Rf.cs W x kk → Below w.heap.size w W → a.length + kk.length ≤ 3518437208883 → ∀ ty, ∃ q' n' c' w', (Builtin.append_ #[33, 33] ty #[u, x]).run Tryz.prog W = .ok (.slice q' n' c') w' ∧ RowG 53 5 Rf.cs w' w.heap.size (.slice q' n' c') (a ++ kk) ∧ Below w.heap.size w w') := (show _ from fun W u x a kk k1 k2 k3 k4 ty => by
    obtain ⟨q', n', c', w', r1, r2, r3⟩ := app_piece Tryz.underlying33 hi0 hz0 hzs hzb rfl (by omega) Rf.len Rf.one k1 k2 k3.size (by omega) (by omega) ty
    exact ⟨q', n', c', w', r1, r2, k3.trans (r3.mono (Nat.le_refl _))⟩)
  have HN : Hid (n = l.length) := hn
  have q22 : ∀ (W : World) (a : Option Addr) (n c n' c' : Nat), (binOp .eql 33 (.slice a n c) (.slice none n' c')).run Tryz.prog W = .ok (.bool a.isNone) W := fun W a n c n' c' => Lib.run_eql_slice_nil W _ _ a n c n' c' Tryz.underlying33
  clear hc hn hp hi0 hz0 hzs hzb i0
  have HR0 : Hid (∀ T, RowG 53 5 Rf.cs (w.alloc (.cells #[] 53)) w.heap.size (.slice (some ⟨w.heap.size, 0, none⟩) 0 0) [] ∧ T = T) := (show ∀ T : TypeId, _ from fun T => ⟨RowG.mk (cs := Rf.cs) Rf.len rfl (Nat.le_refl _) (heap_at rfl) (Nat.le_refl _) (by unfold maxLen; omega) rfl rfl, rfl⟩)
  go_enter Tryz.func41, Tryz.ntmps41
  go_wp2_with (at_builtin; obtain ⟨q2, n2, c2, w2, hr, r2, b2⟩ := HAP.out _ (.slice (some ⟨w.heap.size, 0, none⟩) 0 0) _ [] l (HR0.out 0).1 (HV.out _ zqb) zqb (by have := HN.out; simp; omega) _; refine wpList_app3 rfl _ _ _ _ rfl _ _ rfl rfl _ w2 hr ?_; have R2 : Hid (RowG 53 5 Rf.cs w2 w.heap.size (.slice q2 n2 c2) l) := r2; have hB2 : Below w.heap.size w w2 := b2; clear hr r2 b2)
  go_ret
  exact ⟨_, rfl, R2.out, hB2⟩
/-- References in their order, each once. -/
def onceR (l : List Rf) : List Rf := cpt sRf (srtL cmpF l)
theorem onceR_mem (l : List Rf) (x : Rf) : x ∈ onceR l ↔ x ∈ l := by unfold onceR; rw [mem_cpt (fun _ _ => sRf_is)]; exact (srtL_perm cmpF l).mem_iff
theorem onceR_len (l : List Rf) : (onceR l).length ≤ l.length := by have := cpt_len sRf (srtL cmpF l); rw [srtL_len] at this; exact this
theorem onceR_pos {l : List Rf} (h : 0 < l.length) : 0 < (onceR l).length := by
  match l, h with
  | x :: t, _ => exact List.length_pos_of_mem ((onceR_mem (x :: t) x).2 List.mem_cons_self)
theorem cmpF_trans {x y z : Rf} (h1 : cmpF x y < 0) (h2 : cmpF y z < 0) : cmpF x z < 0 := by rw [cmpF_lex] at *; omega
theorem onceR_srt (l : List Rf) : (onceR l).Pairwise (fun x y => cmpF x y < 0) := by
  have h : (srtL cmpF l).Pairwise (fun x y => cmpF x y < 0 ∨ x = y) := (srtL_srt cmpF_swo l).imp (fun {x y} h => by
    by_cases h2 : cmpF x y < 0
    · exact .inl h2
    · exact .inr (cmpF_tot x y (decide_eq_false h2) (decide_eq_false h)))
  exact cpt_srt (s := sRf) (lt := fun x y => cmpF x y < 0) (fun _ _ => sRf_is) (fun h1 h2 => cmpF_trans h1 h2) h
set_option maxRecDepth 100000 in
set_option maxHeartbeats 4000000 in
theorem once_any (w : World) (b o n cp : Nat) (l : List Rf) (hn : n = l.length) (hp : 0 < n) (hl : n ≤ 3518437208883) (hc : ∀ i x, l[i]? = some x → ∀ j u, (Rf.cs x)[j]? = some u → w.cell? ⟨b, o + i * 5 + j, none⟩ = some u) : Calls Tryz.prog 24 #[.slice (some ⟨b, o, none⟩) n cp] w fun e w' => ∃ v', e = .returned v' ∧ RowF w' v' (onceR l) ∧ (∀ g, v'.ownBlock = some g → w.heap.size ≤ g) ∧ Below w.heap.size w w' := by
  have mixed : Tryz.prog.follows .mixedOrders = true := by kernel_rfl
  have HCl : Hid (Calls Tryz.prog 41 #[.slice (some ⟨b, o, none⟩) n cp] w fun e w' => ∃ v', e = .returned v' ∧ RowG 53 5 Rf.cs w' w.heap.size v' l ∧ Below w.heap.size w w') := clone_any w b o n cp l hn hp hl hc
  have HSo : Hid (∀ W v, RowG 53 5 Rf.cs W w.heap.size v l → Below w.heap.size w W → Calls Tryz.prog 42 #[v, .func (.func 43) #[] #[]] W fun e w' => e = .returned (.tuple #[]) ∧ RowG 53 5 Rf.cs w' w.heap.size v (srtL cmpF l) ∧ Below w.heap.size w w') := (show _ from fun W v h1 h2 => (sortf_any W w.heap.size v l h1 (by omega)).mono (by
    rintro e w' ⟨rfl, k1, k2⟩
    exact ⟨rfl, k1, h2.trans (k2.to_below h2.size (fun k hk => (RowG.lt h1 k hk).1))⟩))
  have HCo : Hid (∀ W v, RowG 53 5 Rf.cs W w.heap.size v (srtL cmpF l) → Below w.heap.size w W → Calls Tryz.prog 45 #[v] W fun e w' => ∃ g c, e = .returned (.slice (some ⟨g, 0, none⟩) (onceR l).length c) ∧ RowF w' (.slice (some ⟨g, 0, none⟩) (onceR l).length c) (onceR l) ∧ Below w.heap.size w w') := (show _ from fun W v h1 h2 => (comp_anyf W v (srtL cmpF l) (RowG.mono h1 (Nat.zero_le _)) (by rw [srtL_len]; omega)).mono (by
    rintro e w' ⟨v', rfl, k1, k2, k3⟩
    have hb := h2.trans (k3.to_below h2.size (fun k hk => (RowG.lt h1 k hk).1))
    rcases RowG.two k1 with ⟨_, e2⟩ | ⟨g, cap, cur, rfl, _⟩
    · have h0 := onceR_pos (l := l) (by omega)
      have e3 : onceR l = [] := e2
      rw [e3] at h0
      exact absurd h0 (by simp)
    · exact ⟨g, cap, rfl, k1, hb⟩))
  have hlen := onceR_len l
  have HCc : Hid (∀ W sb v, Own W sb #[v] → VWf W v (onceR l) → Calls Tryz.prog 44 #[.slice (some ⟨sb, 0, none⟩) 1 1] W fun e w' => ∃ v', e = .returned v' ∧ RowF w' v' (onceR l) ∧ (∀ g, v'.ownBlock = some g → W.heap.size ≤ g) ∧ Below W.heap.size W w') := (show _ from fun W sb v h1 h2 => concat_onef W sb v (onceR l) h1 h2 (by omega))
  clear hc hn hp hl hlen
  generalize onceR l = R at *
  generalize srtL cmpF l = L at *
  go_enter Tryz.func24, Tryz.ntmps24
  go_wp2_with (first
    | (go_at_call 41; refine HCl.out.mono ?_; rintro e wa ⟨va, rfl, h1, h2⟩; have H1 : Hid (RowG 53 5 Rf.cs wa w.heap.size va l) := h1; have hBa : Below w.heap.size w wa := h2; clear h1 h2)
    | (go_at_call 42; refine (HSo.out _ _ (RowG.keep H1.out zqb) zqb).mono ?_; rintro e wb ⟨rfl, h1, h2⟩; have H2 : Hid (RowG 53 5 Rf.cs wb w.heap.size va L) := h1; have hBb : Below w.heap.size w wb := h2; clear h1 h2)
    | (go_at_call 45; refine (HCo.out _ _ (RowG.keep H2.out zqb) zqb).mono ?_; rintro e wc ⟨gc, cc, rfl, h1, h2⟩; have H3 : Hid (RowF wc (.slice (some ⟨gc, 0, none⟩) R.length cc) R) := h1; have hBc : Below w.heap.size w wc := h2; clear h1 h2)
    | (go_at_call 44; refine (HCc.out _ _ (.slice (some ⟨gc, 0, none⟩) R.length cc) (by with_reducible (repeat' first | assumption | refine Own.drew ?_ | refine Own.drewN ?_ _ | (refine Own.at ?_; first | rfl | (simp; done)) | refine Own.past ?_ _)) (VWf.keep (RowG.vwf H3.out) zqb)).mono ?_; rintro e wd ⟨vd, rfl, h1, h2, h3⟩; have H4 : Hid (RowF wd vd R) := h1; have hz := hBc.size; have H5 : Hid (∀ g, vd.ownBlock = some g → w.heap.size ≤ g) := (show _ from fun g q => Nat.le_trans hz (Nat.le_trans (by simp) (h2 g q))); have hBd : Below w.heap.size w wd := bup zqb h3; clear h1 h2 h3))
  go_ret
  exact ⟨_, rfl, H4.out, H5.out, hBd⟩
end Go.Proofs.YtcjanaldjokllaaGreat
namespace Go.Proofs.YtcjanaldjokllaaGreat
open Go.RowKit Go.Shelf
set_option linter.all false
theorem laidOutK : laidOutB Tryz.prog = true := by kernel_rfl
theorem wideCell : (match Tryz.prog.underlying 32 with | some (.array _ _) | some (.struct _) => true | _ => false) = true := by kernel_rfl
theorem rowCellK : 32 < Tryz.prog.types.size := of_decide_eq_true (by kernel_rfl)
set_option maxRecDepth 100000 in
theorem lawCell : Go.Maps.Keyed Tryz.prog 32 := Go.Maps.Keyed.of_law (deep_law_laid laidOutK (m := 4) (by omega) rowCellK (by kernel_rfl) wideCell)
def keyC (x y : Int) : Lit := .string (keyBytes [.int .i64 x, .int .i64 y])
theorem typesK : Tryz.prog.types.size + 1 = (Tryz.prog.types.size - 1) + 2 := by have := rowCellK; omega
theorem keyTypeCell : Tryz.prog.keyType 32 = true := by kernel_rfl
theorem wfK {x : Int} (h : I64 x) : (Lit.int .i64 x).wf = true := WalkArith.wf_i64 (by have := h.1; have := h.2; omega)
theorem klK_int (d : Nat) (n : Int) (h : (Lit.int .i64 n).wf = true) : Tryz.prog.keyLits (d + 1) 3 [.int .i64 n] = some [.int .i64 n] := by
  unfold Program.keyLits
  rw [Tryz.underlying3]
  simp [h]
theorem klK_cell (d : Nat) (a b : Int) (h1 : (Lit.int .i64 a).wf = true) (h2 : (Lit.int .i64 b).wf = true) : Tryz.prog.keyLits (d + 1 + 1) 32 [.int .i64 a, .int .i64 b] = some [.int .i64 a, .int .i64 b] := by
  rw [Program.keyLits.eq_def]
  simp only [Tryz.underlying32, cellsC]
  simp [cellsI, klK_int, h1, h2]
theorem key_ofC (a b : Int) (h1 : I64 a) (h2 : I64 b) : keyOf Tryz.prog 32 (.agg #[.int .i64 a, .int .i64 b]) = some (keyC a b) := by
  have hf : (Value.agg #[.int .i64 a, .int .i64 b]).formed Tryz.prog 32 = true := by unfold Value.formed; simp only [Tryz.underlying32, cellsC]; rfl
  obtain ⟨d, hd⟩ : ∃ d, Tryz.prog.types.size + 1 = d + 1 + 1 := ⟨_, typesK⟩
  have hk : Tryz.prog.keyLits (Tryz.prog.types.size + 1) 32 (Value.agg #[.int .i64 a, .int .i64 b]).cells.toList = some [.int .i64 a, .int .i64 b] := by
    rw [hd]; exact klK_cell d _ _ (wfK h1) (wfK h2)
  unfold keyOf
  rw [hf, keyTypeCell, hk]
  simp only [Tryz.underlying32, Bool.and_true, if_true]
  rfl
theorem keyC_inj {a b c d : Int} (h1 : I64 a) (h2 : I64 b) (h3 : I64 c) (h4 : I64 d) (h : keyC a b = keyC c d) : a = c ∧ b = d := by
  have k1 := key_ofC a b h1 h2
  rw [h] at k1
  have k2 := lawCell.inj k1 (key_ofC c d h3 h4)
  simpa using k2
def nilS : Value := .slice none 0 0
def heldR (v : Value) : Option (DataW Value × List MemPlace) := some (.held v, [])
/-- What the cells have. -/
def updV (f : Int → Int → Value) (x y : Int) (v : Value) : Int → Int → Value := fun a b => if a = x ∧ b = y then v else f a b
theorem updV_same (f : Int → Int → Value) (x y : Int) (v : Value) : updV f x y v x y = v := if_pos ⟨rfl, rfl⟩
theorem updV_other {f : Int → Int → Value} {x y a b : Int} {v : Value} (h : ¬ (a = x ∧ b = y)) : updV f x y v a b = f a b := if_neg h
/-- Block b is a map of at most n cells; f tells what each has, nil where it is not there. -/
def MapF (w : World) (b n : Nat) (f : Int → Int → Value) : Prop := ∃ D : DataW Value, w.ownsMap Tryz.prog 32 heldR b n D ∧ (∀ x y, I64 x → I64 y → D.atKey (keyC x y) (.held nilS) = .held (f x y)) ∧ (∀ x y, I64 x → I64 y → Maps.has D (keyC x y) = true → f x y ≠ nilS)
theorem MapF.of_block {w w' : World} {b n : Nat} {f : Int → Int → Value} (h : MapF w b n f) (hb : w'.heap[b]? = w.heap[b]?) : MapF w' b n f := by
  obtain ⟨D, ⟨es, clock, h1, h2⟩, h3⟩ := h
  exact ⟨D, ⟨es, clock, hb.trans h1, h2⟩, h3⟩
theorem MapF.lt {w : World} {b n : Nat} {f : Int → Int → Value} (h : MapF w b n f) : b < w.heap.size := by
  obtain ⟨D, h, _⟩ := h
  exact h.lt
theorem MapF.keep {w w' : World} {b n : Nat} {f : Int → Int → Value} (h : MapF w b n f) (hb : Below w.heap.size w w') : MapF w' b n f := h.of_block (hb.block b h.lt)
theorem MapF.mut {S : Nat → Prop} {w w' : World} {b n : Nat} {f : Int → Int → Value} (h : MapF w b n f) (hm : Mut S w w') (hn : ¬ S b) : MapF w' b n f := h.of_block (hm.block b h.lt hn)
theorem MapF.more {w : World} {b n m : Nat} {f : Int → Int → Value} (h : MapF w b n f) (hm : n ≤ m) : MapF w b m f := by
  obtain ⟨D, h1, h2⟩ := h
  exact ⟨D, h1.mono hm, h2⟩
theorem MapF.made (w : World) : MapF (w.alloc (.map #[] 0)) w.heap.size 0 (fun _ _ => nilS) := ⟨_, World.ownsMap_made _ _ _ _, fun x y _ _ => rfl, fun x y _ _ h => by simp [Maps.has] at h⟩
theorem MapF.look {w : World} {b n : Nat} {f : Int → Int → Value} (h : MapF w b n f) {t e : TypeId} (ht : Tryz.prog.underlying t = some (.map 32 e)) (hz : (zeroValue e).run Tryz.prog w = .ok nilS w) (x y : Int) (hx : I64 x) (hy : I64 y) : (Instr.lookup t (.map (some b)) (.agg #[.int .i64 x, .int .i64 y]) false).run Tryz.prog w = .ok (f x y) w := by
  obtain ⟨D, h1, h2, h3⟩ := h
  obtain ⟨v, ps, r1, r2⟩ := h1.lookup lawCell ht hz (zd := .held nilS) (zp := []) rfl (key_ofC x y hx hy)
  rw [h2 x y hx hy] at r2
  simp only [heldR, Option.some.injEq, Prod.mk.injEq, DataW.held.injEq] at r2
  rw [r1, r2.1]
theorem mut_grown {w w' : World} {b : Nat} (h : w.grownBy w' (some b)) : Mut (fun k => k = b) w w' := ⟨h.os, h.tape, h.output, h.size, fun k hk hs => h.block k hk (fun e => hs (by injection e with e))⟩
theorem isKeyC (x y : Int) (hx : I64 x) (hy : I64 y) : WideAt.IsKeyLit (keyC x y) := lawCell.key (key_ofC x y hx hy)
theorem MapF.put {w : World} {b n : Nat} {f : Int → Int → Value} (h : MapF w b n f) {t e : TypeId} (ht : Tryz.prog.underlying t = some (.map 32 e)) (hn : n < maxLen) (x y : Int) (hx : I64 x) (hy : I64 y) (v : Value) (hv : v ≠ nilS) : ∃ w', (Instr.mapUpdate t (.map (some b)) (.agg #[.int .i64 x, .int .i64 y]) v).run Tryz.prog w = .ok () w' ∧ MapF w' b (n + 1) (updV f x y v) ∧ Mut (fun k => k = b) w w' := by
  obtain ⟨D, h1, h2, h3⟩ := h
  obtain ⟨w', r1, r2, r3⟩ := h1.update lawCell ht hn (key_ofC x y hx hy) (val := v) (d := .held v) (ps := []) rfl
  have hI := h1.isMap
  have hK := isKeyC x y hx hy
  refine ⟨w', r1, ⟨_, r2, fun a c ha hc => ?_, fun a c ha hc q => ?_⟩, mut_grown r3⟩
  · by_cases e : a = x ∧ c = y
    · obtain ⟨rfl, rfl⟩ := e
      rw [updV_same, Maps.atKey_put_same hI hK]
    · rw [updV_other e, Maps.atKey_put_other (fun q => e (keyC_inj ha hc hx hy q))]
      exact h2 a c ha hc
  · by_cases e : a = x ∧ c = y
    · obtain ⟨rfl, rfl⟩ := e
      rw [updV_same]; exact hv
    · rw [updV_other e]
      rw [Maps.has_put_other (fun q => e (keyC_inj ha hc hx hy q))] at q
      exact h3 a c ha hc q
theorem MapF.del {w : World} {b n : Nat} {f : Int → Int → Value} (h : MapF w b n f) {t e : TypeId} (ht : Tryz.prog.underlying t = some (.map 32 e)) (x y : Int) (hx : I64 x) (hy : I64 y) (ty : TypeId) : ∃ w', (Builtin.delete_ #[t, 32] ty #[.map (some b), .agg #[.int .i64 x, .int .i64 y]]).run Tryz.prog w = .ok (.tuple #[]) w' ∧ MapF w' b n (updV f x y nilS) ∧ Mut (fun k => k = b) w w' := by
  obtain ⟨D, h1, h2, h3⟩ := h
  obtain ⟨w', r1, r2, r3⟩ := h1.drop lawCell ht (key_ofC x y hx hy) ty
  refine ⟨w', r1, ⟨_, r2, fun a c ha hc => ?_, fun a c ha hc q => ?_⟩, mut_grown r3.grown⟩
  · by_cases e : a = x ∧ c = y
    · obtain ⟨rfl, rfl⟩ := e
      rw [updV_same, Maps.atKey_del_same]
    · rw [updV_other e, Maps.atKey_del_other (fun q => e (keyC_inj ha hc hx hy q))]
      exact h2 a c ha hc
  · by_cases e : a = x ∧ c = y
    · obtain ⟨rfl, rfl⟩ := e
      rw [Maps.has_del_same] at q
      cases q
    · rw [updV_other e]
      rw [Maps.has_del_other (fun q => e (keyC_inj ha hc hx hy q))] at q
      exact h3 a c ha hc q
end Go.Proofs.YtcjanaldjokllaaGreat
